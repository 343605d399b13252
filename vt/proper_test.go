package vt

import (
	"math"
	"math/bits"
	"slices"
	"testing"
	"unicode/utf8"

	"stylus/render"
	"stylus/width"
)

// holdProper holds whether a grid is proper, by the words too.
func holdProper(t *testing.T, what string, g render.Grid, want bool) {
	t.Helper()
	if got := Proper(g); got != want || wordsProper(g) != want {
		t.Fatalf("%s: Proper(%v): %v", what, g, got)
	}
}

// P23.1: rows, columns, cells

func TestProperSides(t *testing.T) {
	for rows := 1; rows <= 60; rows++ {
		for columns := 1; columns <= 60; columns++ {
			holdProper(t, "spaces", spaces(rows, columns), true)
		}
	}
	for _, wrong := range wrongSides() {
		for _, n := range []int{0, 1, 2, 60, 61, 120, 3600, 3660} {
			cells := spaces(1, n).Cells
			for _, other := range []int{1, 2, 59, 60, 0, -1, 61, wrong} {
				holdProper(t, "wrong rows", render.Grid{Rows: wrong, Columns: other, Cells: cells}, false)
				holdProper(t, "wrong columns", render.Grid{Rows: other, Columns: wrong, Cells: cells}, false)
			}
		}
	}
	for other := 1; other <= 60; other++ {
		holdProper(t, "61 rows", spaces(61, other), false)
		holdProper(t, "61 columns", spaces(other, 61), false)
		holdProper(t, "no rows", render.Grid{Columns: other}, false)
		holdProper(t, "no columns", render.Grid{Rows: other}, false)
	}
	holdProper(t, "the zero one", render.Grid{}, false)
	holdProper(t, "61 rows and columns", spaces(61, 61), false)
}

func TestProperNumberOfCells(t *testing.T) {
	for _, side := range [][2]int{{1, 1}, {1, 60}, {60, 1}, {60, 60}, {2, 3}, {7, 5}} {
		rows, columns := side[0], side[1]
		for _, n := range []int{0, 1, columns, rows, rows * columns / 2, rows*columns - 1, rows * columns, rows*columns + 1, (rows + 1) * columns, rows * (columns + 1), 2 * rows * columns} {
			holdProper(t, "cells", render.Grid{Rows: rows, Columns: columns, Cells: spaces(1, n).Cells}, n == rows*columns)
		}
		holdProper(t, "nil", render.Grid{Rows: rows, Columns: columns}, false)
		holdProper(t, "none", render.Grid{Rows: rows, Columns: columns, Cells: []render.Cell{}}, false)
		holdProper(t, "room", render.Grid{Rows: rows, Columns: columns, Cells: spaces(rows, columns).Cells[:0]}, false)
	}
	holdProper(t, "as many, by other sides", render.Grid{Rows: 2, Columns: 6, Cells: spaces(3, 4).Cells}, true)
}

// Numbers whose product is too great for an int, or is by overflow the number of
// the cells.
func TestProperOverflow(t *testing.T) {
	high := 1 << (bits.UintSize - 2) // four times it is 0
	half := 1 << (bits.UintSize / 2) // so is its square
	for _, side := range [][2]int{
		{high, 4}, {4, high}, {high + 1, 4}, {4, high + 1}, {high + 15, 60}, {60, high + 60}, {high, 60}, {high, high}, {half, half}, {half + 1, half + 1}, {half, 60}, {half * 2, half / 2},
		{math.MaxInt, math.MaxInt}, {math.MinInt, math.MinInt}, {math.MinInt, 2}, {2, math.MinInt}, {math.MinInt + 1, math.MinInt + 1}, {math.MinInt + 1, 2}, {math.MinInt, 1}, {math.MaxInt, 2}, {math.MaxInt, 60},
		{-1, -1}, {-2, -3}, {-60, -60}, {-1, -60}, {math.MinInt, -1}, {-1, math.MinInt}, {0, 0}, {0, math.MaxInt}, {math.MinInt, 0},
	} {
		product := side[0] * side[1] // wraps round
		for _, n := range []int{product, 0, 1, 4, 60, 3600} {
			if n < 0 || n > 100000 {
				continue
			}
			g := spaces(1, n)
			g.Rows, g.Columns = side[0], side[1]
			holdProper(t, "overflow", g, false)
			g.Cells = nil
			holdProper(t, "overflow, no cells", g, false)
		}
	}
}

// P23.1: styles

func TestProperStyles(t *testing.T) {
	l := []int{-1, 8, 9, 15, 16, -7, -8, 100, 255, 256, 257, -256, 65536, math.MinInt, math.MinInt + 1, math.MaxInt, math.MaxInt - 7, math.MinInt32, math.MaxInt32, wide(), wide() + 1, -wide() + 3}
	for n := range 8 {
		l = append(l, n)
	}
	for _, style := range l {
		is := style >= 0 && style <= 7
		for _, side := range [][2]int{{1, 1}, {1, 3}, {3, 1}, {2, 3}} {
			for at := range side[0] * side[1] {
				g := spaces(side[0], side[1])
				g.Cells[at].Style = style
				holdProper(t, "a space", g, is)
				g.Cells[at].Rune = 'a'
				holdProper(t, "a narrow one", g, is)
			}
			all := spaces(side[0], side[1])
			for i := range all.Cells {
				all.Cells[i].Style = style
			}
			holdProper(t, "all", all, is)
		}
		for at := range 3 {
			g := grid("    ")
			g.Cells[at], g.Cells[at+1] = render.Cell{Rune: '中', Style: style}, render.Cell{Style: style}
			holdProper(t, "a wide one", g, is)
			g.Cells[at].Style = 0
			holdProper(t, "a wide one, the second half", g, style == 0)
			g.Cells[at], g.Cells[at+1] = render.Cell{Rune: '中', Style: style}, render.Cell{}
			holdProper(t, "a wide one, the first half", g, style == 0)
		}
	}
}

// P23.1: runes

func TestProperEdgeRunes(t *testing.T) {
	for r, is := range map[rune]bool{
		31: false, 32: true, 33: true, 126: true, 127: false, 128: false, 129: false, 143: false, 158: false, 159: false, 160: true, 161: true,
		1: false, 9: false, 10: false, 13: false, 27: false, 0: false, -1: false, math.MinInt32: false, math.MaxInt32: false,
		'a': true, '_': true, 0xE9: true, 0x20AC: true, 0xD7FF: true, 0xD800: false, 0xDBFF: false, 0xDC00: false, 0xDFFF: false, 0xE000: true, 0xFFFD: true, 0xFFFF: true, 0x10000: true, 0x10FFFF: true, 0x110000: false,
		0x2FF: true, 0x300: false, 0x301: false, 0x36F: false, 0x370: true, 0x200A: true, 0x200B: false, 0x200F: false, 0x2010: true, 0xFDFF: true, 0xFE00: false, 0xFE0F: false, 0xFE10: true,
		0x1100: false, '中': false, 0x1F600: false, // wide ones, with nothing behind them
	} {
		for at := range 3 {
			g := grid("abc")
			g.Cells[at].Rune = r
			holdProper(t, "edge", g, is)
		}
	}
	for r, is := range map[rune]bool{
		0x10FF: false, 0x1100: true, 0x115F: true, 0x1160: false, 0x2E7F: false, 0x2E80: true, 0x303E: true, 0x303F: false, 0x3040: false, 0x3041: true, 0x4DBF: true, 0x4DC0: false, 0x4E00: true, 0xA4CF: true, 0xA4D0: false,
		0xAC00: true, 0xD7A3: true, 0xD7A4: false, 0xF900: true, 0xFAFF: true, 0xFB00: false, 0xFE30: true, 0xFE6F: true, 0xFE70: false, 0xFF00: true, 0xFF60: true, 0xFF61: false, 0xFFE0: true, 0xFFE6: true, 0xFFE7: false,
		0x1F300: true, 0x1F64F: true, 0x1F650: false, 0x1F900: true, 0x1F9FF: true, 0x1FA00: false, 0x20000: true, 0x3FFFD: true, 0x3FFFE: false, 'a': false, ' ': false, 0: false, 0x301: false, 0xFE00: false, 0xD800: false, 0x110000: false, -1: false,
	} {
		for at := range 3 {
			g := grid("abcd")
			g.Cells[at].Rune, g.Cells[at+1].Rune = r, 0
			holdProper(t, "edge, with a 0 behind it", g, is)
		}
	}
}

// Each rune, alone and with a 0 behind it.
func TestProperEachRune(t *testing.T) {
	g := grid("ab")
	for r := rune(-70000); r <= 0x11FFFF; r++ {
		is := r >= 32 && (r < 127 || r > 159) && utf8.ValidRune(r)
		g.Cells[0].Rune, g.Cells[1].Rune = r, 'b'
		holdProper(t, "ahead of another one", g, is && width.Of(r) == 1)
		g.Cells[1].Rune = 0
		holdProper(t, "ahead of 0", g, is && width.Of(r) == 2)
		g.Cells[0].Rune, g.Cells[1].Rune = 'a', r
		holdProper(t, "at last", g, is && width.Of(r) == 1)
	}
}

func TestProperHalves(t *testing.T) {
	for _, c := range []struct {
		name string
		rows []string
		is   bool
	}{
		{"0 alone", []string{"_"}, false},
		{"0 at first", []string{"_a"}, false},
		{"0 at first of all", []string{"_中_"}, false},
		{"0 behind a narrow one", []string{"a_"}, false},
		{"0 behind a space", []string{" _ "}, false},
		{"0 behind a wide one", []string{"中_"}, true},
		{"0 behind a wide one, with the same style", []string{"中_/77"}, true},
		{"0 behind a wide one, with another style", []string{"中_/70"}, false},
		{"0 behind a wide one, with another style", []string{"中_/07"}, false},
		{"0 behind a wide one, with another style", []string{"中_a/455"}, false},
		{"0 behind another 0", []string{"中__"}, false},
		{"0 behind another 0", []string{"中__中_"}, false},
		{"0 behind another 0, alone", []string{"__"}, false},
		{"0 at the beginning of a row, behind a wide one", []string{"a中", "_b"}, false},
		{"0 at the beginning of a row, behind a whole wide one", []string{"中_", "_b"}, false},
		{"0 at the beginning of a row, in one column", []string{"中", "_"}, false},
		{"0 at the end of a row", []string{"a_", "中_"}, false},
		{"a wide one in the last column", []string{"a中"}, false},
		{"a wide one in the last column, of the first row", []string{"a中", "  "}, false},
		{"a wide one in the last column, of the last row", []string{"  ", "a中"}, false},
		{"a wide one in the only column", []string{"中"}, false},
		{"a wide one in the only column of several rows", []string{" ", "中", " "}, false},
		{"a wide one ahead of a narrow one", []string{"中a"}, false},
		{"a wide one ahead of a space", []string{"中 "}, false},
		{"a wide one ahead of a wide one", []string{"中中_"}, false},
		{"a wide one ahead of a wide one", []string{"中中__"}, false},
		{"wide ones", []string{"中_文_"}, true},
		{"wide ones, with a style each", []string{"中_文_国_/114400"}, true},
		{"wide ones, ahead of narrow ones", []string{"中_文_a"}, true},
		{"wide ones, behind narrow ones", []string{"a中_文_"}, true},
		{"wide ones and narrow ones", []string{"a中_b文_c"}, true},
		{"wide ones in all rows", []string{"中_a", "a中_", "中_b"}, true},
		{"one row is not right, the first one", []string{"_中_", "a中_", "中_b"}, false},
		{"one row is not right, in the middle", []string{"中_a", "a_中", "中_b"}, false},
		{"one row is not right, the last one", []string{"中_a", "a中_", "中__"}, false},
	} {
		holdProper(t, c.name, grid(c.rows...), c.is)
	}
}

// grids calls f with all grids of so many rows and columns whose cells are of these.
func grids(rows, columns int, of []render.Cell, f func(g render.Grid)) {
	g := spaces(rows, columns)
	var fill func(at int)
	fill = func(at int) {
		if at == len(g.Cells) {
			f(g)
			return
		}
		for _, c := range of {
			g.Cells[at] = c
			fill(at + 1)
		}
	}
	fill(0)
}

func TestProperSmallGrids(t *testing.T) {
	few := []render.Cell{{Rune: 'a'}, {Rune: 'a', Style: 1}, {}, {Style: 1}, {Rune: '中'}, {Rune: '中', Style: 1}}
	more := slices.Concat(few, []render.Cell{{Rune: 0x301}, {Rune: 10}, {Rune: 'a', Style: 8}, {Style: 8}, {Rune: '中', Style: 8}, {Rune: '中', Style: -1}, {Style: -1}})
	proper := 0
	hold := func(g render.Grid) {
		is := wordsProper(g)
		holdProper(t, "small", g, is)
		if is {
			proper++
		}
	}
	for _, side := range [][2]int{{1, 1}, {1, 2}, {2, 1}, {1, 3}, {3, 1}} {
		grids(side[0], side[1], more, hold)
	}
	for _, side := range [][2]int{{1, 4}, {2, 2}, {4, 1}, {1, 5}} {
		grids(side[0], side[1], few, hold)
	}
	// A row of n columns: twice as many as of n-1 (a narrow one at last, of two
	// styles), and twice as many as of n-2 (a wide one): 2, 6, 16, 44, 120.
	if want := 2 + 6 + 2*2 + 16 + 2*2*2 + 44 + 6*6 + 2*2*2*2 + 120; proper != want {
		t.Errorf("%d proper grids, want %d", proper, want)
	}
}
