package vt

import (
	"stylus/render"
	"stylus/width"
)

// effects returns what a terminal does with the numbers of a sequence, by the
// last byte of it. Any other last byte has no effect.
func effects() map[byte]func(t *Term, numbers []int) {
	return map[byte]func(t *Term, numbers []int){
		'H': (*Term).place,
		'm': (*Term).restyle,
		'J': (*Term).wipe,
	}
}

// place makes the first two numbers, which count from 1 on, the position.
func (t *Term) place(numbers []int) {
	at := [2]int{1, 1}
	copy(at[:], numbers)
	t.row = max(1, min(at[0], t.grid.Rows)) - 1
	t.column = max(1, min(at[1], t.grid.Columns)) - 1
}

// restyle changes the style by one number after the other; by 0 if there is none.
func (t *Term) restyle(numbers []int) {
	if len(numbers) == 0 {
		t.style = 0
	}
	for _, number := range numbers {
		if number == 0 {
			t.style = 0
		}
		for i, n := range styleNumbers {
			if number == n {
				t.style |= 1 << i
			}
		}
	}
}

// wipe makes all cells spaces, if the only number is 2.
func (t *Term) wipe(numbers []int) {
	if len(numbers) == 1 && numbers[0] == 2 {
		t.grid = blank(t.grid.Rows, t.grid.Columns)
	}
}

// put writes a rune at the position, if it can be shown there.
func (t *Term) put(r rune) {
	n := width.Of(r)
	if !isShown(r) || n > t.grid.Columns-t.column {
		return
	}
	row := rowOf(t.grid, t.row)
	behind := t.column + n
	// Where a cell to be written, or the one behind, is the second half of a wide
	// rune, that rune is cut in two: the half that is not written over goes.
	if row[t.column].Rune == 0 {
		row[t.column-1] = render.Cell{Rune: space}
	}
	if behind < len(row) && row[behind].Rune == 0 {
		row[behind] = render.Cell{Rune: space}
	}
	c := render.Cell{Rune: r, Style: t.style}
	row[t.column] = c
	if n == 2 {
		row[t.column+1] = second(c)
	}
	t.column = behind
}
