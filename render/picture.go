package render

import "stylus/width"

const (
	space   = 32
	unknown = '?'
)

// picture has cells by their rows and columns. All others are spaces of style 0.
type picture map[position]Cell

// painted returns the picture of those places that are in some of the rows.
func painted(v View, places []position, first, rows, columns int) picture {
	x := picture{}
	// Ahead of the runes: a caret also shows where no rune takes its cell.
	for _, s := range v.Sels {
		x[places[s.Head]] = Cell{Rune: space, Style: atCaret}
	}
	styles := stylesOf(v)
	for i, p := range places {
		if p[0] < first || p[0] >= first+rows {
			continue
		}
		r := rune(newLine) // the end is shown as one
		if i < len(v.Text) {
			r = v.Text[i]
		}
		x.put(p, taken(r, columns), Cell{Rune: shown(r, columns), Style: styles[i]})
	}
	return x
}

// put makes n cells, from a position on, those of a rune. A caret that is at
// the position is at all of them.
func (x picture) put(p position, n int, c Cell) {
	c.Style |= x[p].Style
	for range n {
		x[p] = c
		p[1]++
		c.Rune = 0
	}
}

// cell returns the cell at a position.
func (x picture) cell(p position) Cell {
	if c, is := x[p]; is {
		return c
	}
	return Cell{Rune: space}
}

// shown returns how a rune is shown that takes columns.
func shown(r rune, columns int) rune {
	switch {
	case r == newLine:
		return space
	case r < space, 127 <= r && r <= 159, width.Of(r) > columns:
		return unknown
	}
	return r
}
