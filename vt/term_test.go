package vt

import (
	"math"
	"math/bits"
	"slices"
	"strings"
	"testing"

	"stylus/api"
	"stylus/render"
)

// grid returns the one that has such rows: the runes (with an _ for 0, which no
// sample has otherwise), and the styles behind a /, if one of them is not 0.
func grid(rows ...string) render.Grid {
	g := render.Grid{Rows: len(rows)}
	for _, row := range rows {
		runes, styles, _ := strings.Cut(row, "/")
		for i, r := range []rune(runes) {
			c := render.Cell{Rune: r}
			if r == '_' {
				c.Rune = 0
			}
			if styles != "" {
				c.Style = int(styles[i] - '0')
			}
			g.Cells = append(g.Cells, c)
		}
		g.Columns = len([]rune(runes))
	}
	return g
}

// drawn returns the rows of a grid, as those from which grid makes one.
func drawn(g render.Grid) []string {
	var l []string
	for row := range slices.Chunk(g.Cells, max(g.Columns, 1)) {
		var runes, styles strings.Builder
		for _, c := range row {
			if c.Rune == 0 {
				c.Rune = '_'
			}
			runes.WriteRune(c.Rune)
			styles.WriteRune('0' + rune(c.Style))
		}
		if strings.Trim(styles.String(), "0") != "" {
			runes.WriteString("/" + styles.String())
		}
		l = append(l, runes.String())
	}
	return l
}

// spaces returns a grid of spaces of style 0.
func spaces(rows, columns int) render.Grid {
	return render.Grid{Rows: rows, Columns: columns, Cells: slices.Repeat([]render.Cell{{Rune: 32}}, rows*columns)}
}

// started returns a new terminal.
func started(t *testing.T, rows, columns int) *Term {
	t.Helper()
	x, e := New(rows, columns)
	if e != api.OK {
		t.Fatalf("New(%d, %d): %d", rows, columns, e)
	}
	return x
}

// holdRows holds what a terminal shows.
func holdRows(t *testing.T, what string, x *Term, want ...string) {
	t.Helper()
	if g := x.Grid(); !same(g, grid(want...)) {
		t.Errorf("%s: %q, want %q", what, drawn(g), want)
	}
}

// wide is 2^32, or 0 where numbers have 32 bits.
func wide() int {
	one := 1
	return one << 32
}

// wrongSides returns numbers of rows and columns that no grid has.
func wrongSides() []int {
	l := []int{
		math.MinInt, math.MinInt + 1, math.MinInt + 5, math.MinInt + 60, math.MaxInt, math.MaxInt - 1, math.MaxInt - 59,
		math.MinInt32, math.MinInt32 + 1, math.MinInt32 + 7, math.MaxInt32, math.MaxInt32 - 1, 1 << (bits.UintSize - 2),
		-65536, -3600, -256, -255, -128, 127, 128, 129, 255, 256, 257, 261, 1000, 3600, 65535, 65536, 65537, 65541, 1 << 24, 1<<24 + 5,
	}
	if wide() != 0 {
		l = append(l, wide(), wide()+1, wide()+5, wide()+60, -wide(), -wide()+1, wide()/2, wide()/2+5)
	}
	for n := -62; n <= 0; n++ {
		l = append(l, n)
	}
	for n := 61; n < 126; n++ {
		l = append(l, n)
	}
	return l
}

// P23.2: New, Grid

func TestNew(t *testing.T) {
	for rows := 1; rows <= 60; rows++ {
		for columns := 1; columns <= 60; columns++ {
			x, e := New(rows, columns)
			if e != api.OK || x == nil {
				t.Fatalf("New(%d, %d): %v, %d", rows, columns, x, e)
			}
			if g := x.Grid(); !same(g, spaces(rows, columns)) {
				t.Fatalf("New(%d, %d): %v", rows, columns, g)
			}
		}
	}
}

// A new terminal writes at 0, 0, with style 0, and nothing waits.
func TestNewWrites(t *testing.T) {
	for _, side := range [][2]int{{1, 1}, {1, 60}, {60, 1}, {60, 60}, {2, 3}} {
		x := started(t, side[0], side[1])
		x.Write([]byte("m"))
		want := spaces(side[0], side[1])
		want.Cells[0] = render.Cell{Rune: 'm'}
		if g := x.Grid(); !same(g, want) {
			t.Errorf("%v: %q", side, drawn(g))
		}
	}
}

func TestNewWrongSides(t *testing.T) {
	for _, wrong := range wrongSides() {
		for _, other := range []int{1, 2, 30, 59, 60, 0, -1, 61, math.MinInt, math.MaxInt, wrong} {
			for _, side := range [][2]int{{wrong, other}, {other, wrong}} {
				if x, e := New(side[0], side[1]); x != nil || e != api.ErrArg {
					t.Errorf("New(%d, %d): %v, %d", side[0], side[1], x, e)
				}
			}
		}
	}
}

// P23.2: Size

// begun are bytes behind which a terminal has a style, a position, and cells that
// are not spaces.
const begun = "a中\x1b[7;1mb\x1b[2;2Hc"

// A terminal that was given a size is like a new one of that size.
func TestSizeIsAsNew(t *testing.T) {
	for _, from := range [][2]int{{1, 1}, {2, 3}, {3, 7}, {60, 60}} {
		for _, to := range [][2]int{{1, 1}, {2, 3}, {3, 2}, {3, 7}, {7, 3}, {1, 60}, {60, 1}, {60, 60}, {59, 60}} {
			for _, b := range []string{"", "x", begun, "\x1b[60;60H", "\x1b[7m", "abc中中中中", begun + "\r\n\x1b[K"} {
				for _, next := range []string{"", "x", "中", "\x1b[mx", "\x1b[2;2Hx", "\x1b[1mx\x1b[2;2Hy", "xyz中中\x1b[60;60Hx"} {
					x, as := started(t, from[0], from[1]), started(t, to[0], to[1])
					x.Write([]byte(b))
					if e := x.Size(to[0], to[1]); e != api.OK {
						t.Errorf("Size(%d, %d): %d", to[0], to[1], e)
					}
					if g := x.Grid(); !same(g, spaces(to[0], to[1])) {
						t.Errorf("Size(%d, %d) behind %q: %q", to[0], to[1], b, drawn(g))
					}
					x.Write([]byte(next))
					as.Write([]byte(next))
					if g, want := x.Grid(), as.Grid(); !same(g, want) {
						t.Errorf("%q behind Size(%d, %d) behind %q: %q, want %q", next, to[0], to[1], b, drawn(g), drawn(want))
					}
				}
			}
		}
	}
}

func TestEachSize(t *testing.T) {
	x := started(t, 7, 7)
	for rows := 1; rows <= 60; rows++ {
		for columns := 60; columns >= 1; columns-- {
			x.Write([]byte("\x1b[3;3H\x1b[4mq"))
			if e := x.Size(rows, columns); e != api.OK {
				t.Fatalf("Size(%d, %d): %d", rows, columns, e)
			}
			if g := x.Grid(); !same(g, spaces(rows, columns)) {
				t.Fatalf("Size(%d, %d): %q", rows, columns, drawn(g))
			}
			x.Write([]byte("q\x1b[60;60Hr"))
			want := spaces(rows, columns)
			want.Cells[0].Rune = 'q'
			want.Cells[rows*columns-1].Rune = 'r'
			if g := x.Grid(); !same(g, want) {
				t.Fatalf("behind Size(%d, %d): %q", rows, columns, drawn(g))
			}
		}
	}
}

// What waits still waits.
func TestSizeKeepsWhatWaits(t *testing.T) {
	for _, c := range []struct{ waits, next, want string }{
		{"\x1b", "[7mx", "x/1"},
		{"\x1b", "Qx", "x"},
		{"\x1b[", "7mx", "x/1"},
		{"\x1b[", "7;1mx", "x/5"},
		{"\x1b[7", "mx", "x/1"},
		{"\x1b[7;", "4mx", "x/3"},
		{"\x1b[2", "Jx", "x"},
		{"\x1b[1;3", "Hx", "  x"},
		{"\x1b[1;", "2Hx", " x"},
		{"\x1b[000000000000000000000000000000", "mx", "x"},
		{"\x1b[000000000000000000000000000000", "0mx", "mx"},
		{"\xc3", "\xa9x", "\u00E9x"},
		{"\xe4", "\xb8\xadx", "中_x"},
		{"\xe4\xb8", "\xadx", "中_x"},
		{"\xe4\xb8", "x", "\uFFFD\uFFFDx"},
		{"\xf0\x9f\x98", "\x80x", "\U0001F600_x"},
		{"\xf0", "\x9f\x98\x80x", "\U0001F600_x"},
		{"", "7mx", "7mx"},
	} {
		for _, ahead := range []string{"", "中", "\x1b[4m", "\x1b[2;2H", begun} {
			x := started(t, 3, 4)
			x.Write([]byte(ahead + c.waits))
			for _, side := range [][2]int{{3, 4}, {60, 60}, {1, 1}, {1, 8}} {
				if e := x.Size(side[0], side[1]); e != api.OK {
					t.Errorf("Size: %d", e)
				}
				if g := x.Grid(); !same(g, spaces(side[0], side[1])) {
					t.Errorf("Size behind %q: %q", c.waits, drawn(g))
				}
			}
			x.Write([]byte(c.next))
			want := grid(c.want)
			for len(want.Cells) < 8 {
				want.Cells = append(want.Cells, render.Cell{Rune: 32})
			}
			want.Columns = 8
			if g := x.Grid(); !same(g, want) {
				t.Errorf("%q, Size, %q: %q, want %q", c.waits, c.next, drawn(g), drawn(want))
			}
		}
	}
}

// A size that is turned down changes nothing: neither what is shown, nor where and
// how the terminal writes, nor what waits.
func TestSizeTurnedDown(t *testing.T) {
	for _, waits := range []string{"", "\x1b", "\x1b[", "\x1b[1;", "\x1b[7", "\xe4\xb8", "\xf0\x9f\x98"} {
		for _, tail := range tails {
			x, as := started(t, 3, 6), started(t, 3, 6)
			x.Write([]byte(begun + waits))
			as.Write([]byte(begun + waits))
			for _, wrong := range wrongSides() {
				for _, other := range []int{1, 3, 6, 60, 0, 61, math.MinInt, math.MaxInt, wrong} {
					if x.Size(wrong, other) != api.ErrArg || x.Size(other, wrong) != api.ErrArg {
						t.Fatalf("Size of %d and %d", wrong, other)
					}
				}
			}
			if g, want := x.Grid(), as.Grid(); !same(g, want) {
				t.Errorf("a wrong Size behind %q: %q, want %q", waits, drawn(g), drawn(want))
			}
			x.Write([]byte(tail))
			as.Write([]byte(tail))
			if g, want := x.Grid(), as.Grid(); !same(g, want) {
				t.Errorf("%q behind a wrong Size behind %q: %q, want %q", tail, waits, drawn(g), drawn(want))
			}
		}
	}
}

func TestNilTerminal(t *testing.T) {
	var x *Term
	for range 2 {
		for _, b := range []string{"", "a", "\x1b", "\x1b[", "\x1b[2J", "\x1b[H", "\x1b[7m", "\xe4\xb8", "中"} {
			x.Write([]byte(b))
			if g := x.Grid(); g.Rows != 0 || g.Columns != 0 || len(g.Cells) != 0 {
				t.Errorf("Grid behind %q: %v", b, g)
			}
		}
		x.Write(nil)
		for _, side := range [][2]int{{1, 1}, {60, 60}, {2, 3}, {0, 1}, {1, 61}, {math.MinInt, math.MaxInt}} {
			if e := x.Size(side[0], side[1]); e != api.ErrArg {
				t.Errorf("Size(%d, %d): %d", side[0], side[1], e)
			}
		}
	}
}

// Two terminals have nothing in common.
func TestTwoTerminals(t *testing.T) {
	a, b := started(t, 1, 4), started(t, 1, 4)
	a.Write([]byte("\x1b[7mab\x1b["))
	holdRows(t, "the other one", b, "    ")
	b.Write([]byte("H"))
	holdRows(t, "the other one", b, "H   ")
	holdRows(t, "the first one", a, "ab  /1100")
	a.Write([]byte("Hx"))
	holdRows(t, "the first one", a, "xb  /1100")
	holdRows(t, "the other one", b, "H   ")
	a.Size(2, 2)
	holdRows(t, "the other one", b, "H   ")
	b.Write([]byte("y"))
	holdRows(t, "the other one", b, "Hy  ")
}
