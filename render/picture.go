package render

import "stylus/width"

const (
	space   = 32
	unknown = '?'
)

// picture has cells by their rows and columns. All others are spaces of style 0.
type picture map[position]Cell

// painted returns the picture of those places that are in some of the rows.
func painted(v View, places []position, first, rows, columns int) picture {
	x := picture{}
	styles := stylesOf(v)
	for i, p := range places {
		if p[0] < first || p[0] >= first+rows {
			continue
		}
		r := rune(newLine) // the end is shown as one
		if i < len(v.Text) {
			r = v.Text[i]
		}
		x.put(p, taken(r, columns), Cell{Rune: shown(r, columns), Style: styles[i]})
	}
	return x
}

// put makes n cells, from a position on, those of a rune, with the styles of
// the runes of width 0 ahead of it that have the same position. Where n is 0,
// the style of the rune still needs its cell: what is behind may not take it.
func (x picture) put(p position, n int, c Cell) {
	c.Style |= x[p].Style
	for range max(n, 1) {
		x[p] = c
		p[1]++
		c.Rune = 0
	}
}

// cell returns the cell at a position.
func (x picture) cell(p position) Cell {
	if c, is := x[p]; is {
		return c
	}
	return Cell{Rune: space}
}

// shown returns how a rune is shown. One of width 0 is not: its cell has a space
// unless the rune behind it takes that cell.
func shown(r rune, columns int) rune {
	switch {
	case r == newLine, width.Of(r) == 0:
		return space
	case r < space, 127 <= r && r <= 159, width.Of(r) > columns:
		return unknown
	}
	return r
}
