package vt

import (
	"slices"

	"stylus/api"
	"stylus/render"
	"stylus/utf"
	"stylus/width"
)

const (
	space     = 32
	mostStyle = 7
)

// Proper reports whether a grid is proper.
func Proper(g render.Grid) bool {
	// The sides come first, so that their product is never too great.
	if !isSide(g.Rows) || !isSide(g.Columns) || len(g.Cells) != g.Rows*g.Columns {
		return false
	}
	for row := range slices.Chunk(g.Cells, g.Columns) {
		if !isProperRow(row) {
			return false
		}
	}
	return true
}

// isProperRow reports whether the cells of a row are as in a proper grid.
func isProperRow(row []render.Cell) bool {
	for len(row) > 0 {
		c := row[0]
		n := width.Of(c.Rune)
		if !isShown(c.Rune) || c.Style < 0 || c.Style > mostStyle || n > len(row) {
			return false
		}
		if n == 2 && row[1] != second(c) {
			return false
		}
		row = row[n:]
	}
	return true
}

// isShown reports whether a rune can be that of a cell, other than the second
// one of a wide rune.
func isShown(r rune) bool {
	return utf.Right(r) && r >= space && (r < 127 || r > 159) && width.Of(r) > 0
}

// second returns the second cell of a wide rune, whose first one is c.
func second(c render.Cell) render.Cell {
	return render.Cell{Style: c.Style}
}

// isSide reports whether a grid can have so many rows or columns.
func isSide(n int) bool {
	return n >= 1 && n <= api.MaxSide
}

// blank returns a grid of spaces.
func blank(rows, columns int) render.Grid {
	return render.Grid{Rows: rows, Columns: columns, Cells: slices.Repeat([]render.Cell{{Rune: space}}, rows*columns)}
}

// rowOf returns the cells of a row, not a copy of them.
func rowOf(g render.Grid, row int) []render.Cell {
	return g.Cells[row*g.Columns : (row+1)*g.Columns]
}
