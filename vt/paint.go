package vt

import (
	"slices"
	"strconv"

	"stylus/api"
	"stylus/render"
	"stylus/utf"
)

// styleNumbers are the numbers by which a sequence tells the 1, 2, 4 of a style.
var styleNumbers = [3]int{7, 4, 1}

// Paint returns the bytes after which a terminal that shows one grid shows
// another one.
func Paint(from, to render.Grid) ([]byte, api.Errno) {
	if !Proper(to) {
		return nil, api.ErrArg
	}
	var b []byte
	anew := from.Rows != to.Rows || from.Columns != to.Columns || len(from.Cells) != len(to.Cells)
	if anew {
		b = append(b, escape, '[', '2', 'J')
	}
	for i := range to.Rows {
		row := rowOf(to, i)
		if anew || !slices.Equal(row, rowOf(from, i)) {
			b = appendRow(b, i, row)
		}
	}
	return b, api.OK
}

// appendRow appends the bytes of a row.
func appendRow(b []byte, i int, row []render.Cell) []byte {
	b = append(b, escape, '[')
	b = strconv.AppendInt(b, int64(i)+1, 10)
	b = append(b, ';', '1', 'H')
	style := -1 // that of no cell, so that the first one tells its own
	for _, c := range row {
		if c.Rune == 0 {
			continue
		}
		if c.Style != style {
			b = appendStyle(b, c.Style)
			style = c.Style
		}
		b = append(b, utf.Encode([]rune{c.Rune})...)
	}
	return b
}

// appendStyle appends the bytes that give what is written behind them a style.
func appendStyle(b []byte, style int) []byte {
	b = append(b, escape, '[', '0')
	for i, n := range styleNumbers {
		if style&(1<<i) != 0 {
			b = append(b, ';')
			b = strconv.AppendInt(b, int64(n), 10)
		}
	}
	return append(b, 'm')
}
