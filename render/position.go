package render

import "stylus/width"

const newLine = 10

// position is a row and a column. As an array it can be held against others,
// and be a key by which a cell is found.
type position [2]int

// positions returns that of each place of a text, the end included.
func positions(t []rune, columns int) []position {
	l := make([]position, 0, len(t)+1)
	var now position
	for _, r := range t {
		now = now.withRoom(taken(r, columns), columns)
		l = append(l, now)
		now = now.behind(r, columns)
	}
	return append(l, now.withRoom(0, columns))
}

// withRoom returns the position if n columns are left there, otherwise the one
// at which the next row begins. What takes none has a column all the same.
func (p position) withRoom(n, columns int) position {
	if columns-p[1] < max(n, 1) {
		return p.nextRow()
	}
	return p
}

// behind returns the position after a rune that has this one.
func (p position) behind(r rune, columns int) position {
	if r == newLine {
		return p.nextRow()
	}
	return position{p[0], p[1] + taken(r, columns)}
}

func (p position) nextRow() position {
	return position{p[0] + 1, 0}
}

// taken returns how many columns a rune takes: a wide one takes the only one.
func taken(r rune, columns int) int {
	return min(width.Of(r), columns)
}
