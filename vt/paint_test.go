package vt

import (
	"math"
	"slices"
	"strconv"
	"strings"
	"testing"

	"stylus/api"
	"stylus/render"
)

// holdBytes holds the bytes of Paint, by the words too.
func holdBytes(t *testing.T, what string, from, to render.Grid, want string) {
	t.Helper()
	b, e := Paint(from, to)
	if string(b) != want || e != api.OK {
		t.Errorf("%s: Paint(%q, %q): %q, %d, want %q", what, drawn(from), drawn(to), b, e, want)
	}
	holdPaint(t, from, to)
}

// changed returns a grid with one cell changed.
func changed(g render.Grid, at int, c render.Cell) render.Grid {
	g.Cells = slices.Clone(g.Cells)
	g.Cells[at] = c
	return g
}

// P23.1: the same grid

func TestPaintTheSame(t *testing.T) {
	for _, g := range []render.Grid{
		spaces(1, 1), spaces(1, 60), spaces(60, 1), spaces(60, 60), grid("a"), grid("中_"), grid("ab/17", "中_/44"), grid("_"), grid("a中"), grid("ab/90"),
	} {
		b, e := Paint(g, render.Grid{Rows: g.Rows, Columns: g.Columns, Cells: slices.Clone(g.Cells)})
		if want := wordsProper(g); len(b) != 0 || (e == api.OK) != want {
			t.Errorf("Paint(%q) to itself: %q, %d", drawn(g), b, e)
		}
		holdPaint(t, g, g)
	}
}

// P23.1: rows that differ

func TestPaintSamples(t *testing.T) {
	for _, c := range []struct {
		name     string
		from, to []string
		want     string
	}{
		{"one row", []string{"  "}, []string{"ab"}, "\x1b[1;1H\x1b[0mab"},
		{"one row, one cell", []string{"ab"}, []string{"ax"}, "\x1b[1;1H\x1b[0max"},
		{"the first row", []string{"ab", "cd", "ef"}, []string{"xb", "cd", "ef"}, "\x1b[1;1H\x1b[0mxb"},
		{"a row in the middle", []string{"ab", "cd", "ef"}, []string{"ab", "xd", "ef"}, "\x1b[2;1H\x1b[0mxd"},
		{"the last row", []string{"ab", "cd", "ef"}, []string{"ab", "cd", "ex"}, "\x1b[3;1H\x1b[0mex"},
		{"the first and the last row", []string{"ab", "cd", "ef"}, []string{"xb", "cd", "ex"}, "\x1b[1;1H\x1b[0mxb\x1b[3;1H\x1b[0mex"},
		{"two rows", []string{"ab", "cd", "ef"}, []string{"ab", "xy", "zw"}, "\x1b[2;1H\x1b[0mxy\x1b[3;1H\x1b[0mzw"},
		{"all rows", []string{"ab", "cd", "ef"}, []string{"bb", "dd", "ff"}, "\x1b[1;1H\x1b[0mbb\x1b[2;1H\x1b[0mdd\x1b[3;1H\x1b[0mff"},
		{"rows exchanged", []string{"ab", "cd"}, []string{"cd", "ab"}, "\x1b[1;1H\x1b[0mcd\x1b[2;1H\x1b[0mab"},
		{"the style of a cell alone", []string{"ab", "cd"}, []string{"ab", "cd/01"}, "\x1b[2;1H\x1b[0mc\x1b[0;7md"},
		{"the style of the first cell alone", []string{"ab", "cd"}, []string{"ab/40", "cd"}, "\x1b[1;1H\x1b[0;1ma\x1b[0mb"},
		{"a style that goes", []string{"ab/02", "cd"}, []string{"ab", "cd"}, "\x1b[1;1H\x1b[0mab"},
		{"the style of a space alone", []string{"a "}, []string{"a /04"}, "\x1b[1;1H\x1b[0ma\x1b[0;1m "},
		{"the rune of a cell alone, with a style", []string{"ab/33"}, []string{"ac/33"}, "\x1b[1;1H\x1b[0;7;4mac"},
		{"a wide rune", []string{"   "}, []string{"中_a"}, "\x1b[1;1H\x1b[0m中a"},
		{"a wide rune that goes", []string{"中_a"}, []string{"   "}, "\x1b[1;1H\x1b[0m   "},
		{"another wide rune", []string{"a中_"}, []string{"a文_"}, "\x1b[1;1H\x1b[0ma文"},
		{"a wide rune alone", []string{"  "}, []string{"中_"}, "\x1b[1;1H\x1b[0m中"},
		{"wide runes alone", []string{"    ", "    "}, []string{"中_文_", "文_中_/1144"}, "\x1b[1;1H\x1b[0m中文\x1b[2;1H\x1b[0;7m文\x1b[0;1m中"},
		{"the style of a wide rune alone", []string{"a中_b"}, []string{"a中_b/0550"}, "\x1b[1;1H\x1b[0ma\x1b[0;7;1m中\x1b[0mb"},
		{"a style that changes at a wide rune and behind it", []string{"      "}, []string{"a中_b文_/011233"}, "\x1b[1;1H\x1b[0ma\x1b[0;7m中\x1b[0;4mb\x1b[0;7;4m文"},
		{"a style that goes on behind a wide rune", []string{"    "}, []string{"a中_b/2222"}, "\x1b[1;1H\x1b[0;4ma中b"},
		{"a style that changes at a wide rune, and goes on", []string{"    "}, []string{"a中_b/0111"}, "\x1b[1;1H\x1b[0ma\x1b[0;7m中b"},
		{"a style that changes behind a wide rune", []string{"    "}, []string{"a中_b/1110"}, "\x1b[1;1H\x1b[0;7ma中\x1b[0mb"},
		{"a style that changes at each of several wide runes", []string{"      "}, []string{"中_中_中_/001100"}, "\x1b[1;1H\x1b[0m中\x1b[0;7m中\x1b[0m中"},
		{"all styles", []string{"        "}, []string{"abcdefgh/01234567"}, "\x1b[1;1H\x1b[0ma\x1b[0;7mb\x1b[0;4mc\x1b[0;7;4md\x1b[0;1me\x1b[0;7;1mf\x1b[0;4;1mg\x1b[0;7;4;1mh"},
		{"all styles, from the last one", []string{"        "}, []string{"abcdefgh/76543210"}, "\x1b[1;1H\x1b[0;7;4;1ma\x1b[0;4;1mb\x1b[0;7;1mc\x1b[0;1md\x1b[0;7;4me\x1b[0;4mf\x1b[0;7mg\x1b[0mh"},
		{"a style that comes back", []string{"    "}, []string{"abcd/1011"}, "\x1b[1;1H\x1b[0;7ma\x1b[0mb\x1b[0;7mcd"},
		{"a row with the style that the row before ended with", []string{"  ", "  ", "  "}, []string{"ab/01", "cd/11", "ef/10"}, "\x1b[1;1H\x1b[0ma\x1b[0;7mb\x1b[2;1H\x1b[0;7mcd\x1b[3;1H\x1b[0;7me\x1b[0mf"},
		{"rows of style 0", []string{"  ", "  "}, []string{"ab", "cd"}, "\x1b[1;1H\x1b[0mab\x1b[2;1H\x1b[0mcd"},
		{"one column", []string{" ", " ", " "}, []string{"a/1", " ", "c/1"}, "\x1b[1;1H\x1b[0;7ma\x1b[3;1H\x1b[0;7mc"},
		{"runes of one to four bytes", []string{"       "}, []string{"a\u00E9\u20AC中_\U0001F600_"}, "\x1b[1;1H\x1b[0ma\xc3\xa9\xe2\x82\xac\xe4\xb8\xad\xf0\x9f\x98\x80"},
		{"edges of runes", []string{"       "}, []string{" ~\u00A0\uD7FF\uE000\uFFFD\U0010FFFF"}, "\x1b[1;1H\x1b[0m ~\xc2\xa0\xed\x9f\xbf\xee\x80\x80\xef\xbf\xbd\xf4\x8f\xbf\xbf"},
	} {
		holdBytes(t, c.name, grid(c.from...), grid(c.to...), c.want)
		// From what has not the same numbers: all rows, whether they differ or not.
		rows := ""
		for i, row := range c.to {
			rows += wordsRow(i+1, grid(row).Cells)
		}
		holdBytes(t, c.name+", anew", render.Grid{}, grid(c.to...), "\x1b[2J"+rows)
	}
}

// Each cell of grids is changed alone: in its rune, and in its style.
func TestPaintOneCell(t *testing.T) {
	for _, side := range [][2]int{{1, 1}, {1, 5}, {5, 1}, {12, 3}, {3, 60}, {60, 2}} {
		from := spaces(side[0], side[1])
		for i := range from.Cells {
			from.Cells[i] = render.Cell{Rune: rune('a' + i%26), Style: 2}
		}
		for at := range from.Cells {
			row := at / side[1]
			head := "\x1b[" + strconv.Itoa(row+1) + ";1H\x1b[0;4m"
			to := changed(from, at, render.Cell{Rune: '#', Style: 2})
			runes := ""
			for _, c := range to.Cells[row*side[1]:][:side[1]] {
				runes += string(c.Rune)
			}
			holdBytes(t, "a rune", from, to, head+runes)
			holdBytes(t, "the way back", to, from, head+strings.Replace(runes, "#", string(rune('a'+at%26)), 1))
			for style := range 8 {
				holdPaint(t, from, changed(from, at, render.Cell{Rune: from.Cells[at].Rune, Style: style}))
				holdPaint(t, changed(from, at, render.Cell{Rune: from.Cells[at].Rune, Style: style}), from)
			}
		}
	}
}

func TestPaintEachRow(t *testing.T) {
	from := spaces(60, 1)
	want := ""
	to := spaces(60, 1)
	for row := range 60 {
		one := "\x1b[" + strconv.Itoa(row+1) + ";1H\x1b[0mq"
		holdBytes(t, "a row", from, changed(from, row, render.Cell{Rune: 'q'}), one)
		to.Cells[row].Rune = 'q'
		want += one
		holdBytes(t, "rows", from, to, want)
	}
	holdBytes(t, "anew", render.Grid{}, to, "\x1b[2J"+want)
}

// The same style in a whole row, and one that changes in every cell.
func TestPaintStyles(t *testing.T) {
	for style := range 8 {
		to := spaces(2, 60)
		for i := range 60 {
			to.Cells[i].Style = style
			to.Cells[60+i] = render.Cell{Rune: 'a', Style: (i*3 + style) % 8}
		}
		want := "\x1b[1;1H" + wordsStyles[style] + strings.Repeat(" ", 60) + "\x1b[2;1H"
		for i := range 60 {
			want += wordsStyles[(i*3+style)%8] + "a"
		}
		holdBytes(t, "styles", spaces(2, 59), to, "\x1b[2J"+want)
		if style > 0 {
			holdBytes(t, "styles", spaces(2, 60), to, want)
		}
		for other := range 8 {
			cells := []render.Cell{{Rune: 'a', Style: style}, {Rune: 'b', Style: other}}
			want := "\x1b[1;1H" + wordsStyles[style] + "a" + wordsStyles[other] + "b"
			if style == other {
				want = "\x1b[1;1H" + wordsStyles[style] + "ab"
			}
			holdBytes(t, "two styles", grid("xy"), render.Grid{Rows: 1, Columns: 2, Cells: cells}, want)
		}
	}
}

// P23.1: numbers of rows, columns and cells

func TestPaintFromOtherNumbers(t *testing.T) {
	to := grid("abc/001", "中_d")
	anew := "\x1b[2J\x1b[1;1H\x1b[0mab\x1b[0;7mc\x1b[2;1H\x1b[0m中d"
	for _, c := range []struct {
		name string
		from render.Grid
	}{
		{"the zero one", render.Grid{}},
		{"no cells", render.Grid{Rows: 2, Columns: 3}},
		{"other rows alone", render.Grid{Rows: 1, Columns: 3, Cells: to.Cells}},
		{"other rows alone", render.Grid{Rows: 3, Columns: 3, Cells: to.Cells}},
		{"other rows alone", render.Grid{Rows: math.MinInt, Columns: 3, Cells: to.Cells}},
		{"other rows alone", render.Grid{Rows: 2 + wide()*2 - 1, Columns: 3, Cells: to.Cells}},
		{"other columns alone", render.Grid{Rows: 2, Columns: 2, Cells: to.Cells}},
		{"other columns alone", render.Grid{Rows: 2, Columns: 4, Cells: to.Cells}},
		{"other columns alone", render.Grid{Rows: 2, Columns: math.MaxInt, Cells: to.Cells}},
		{"other columns alone", render.Grid{Rows: 2, Columns: -3, Cells: to.Cells}},
		{"fewer cells alone", render.Grid{Rows: 2, Columns: 3, Cells: to.Cells[:5]}},
		{"fewer cells alone", render.Grid{Rows: 2, Columns: 3, Cells: to.Cells[:3]}},
		{"more cells alone", render.Grid{Rows: 2, Columns: 3, Cells: append(slices.Clone(to.Cells), render.Cell{Rune: 32})}},
		{"more cells alone", render.Grid{Rows: 2, Columns: 3, Cells: slices.Concat(to.Cells, to.Cells)}},
		{"rows and columns exchanged", render.Grid{Rows: 3, Columns: 2, Cells: to.Cells}},
		{"as many cells in one row", render.Grid{Rows: 1, Columns: 6, Cells: to.Cells}},
		{"no rows and columns", render.Grid{Cells: to.Cells}},
		{"fewer rows", grid("abc/001")},
		{"more rows", grid("abc/001", "中_d", "   ")},
		{"fewer columns", grid("ab", "中_")},
		{"more columns", grid("abc /0010", "中_d ")},
	} {
		holdBytes(t, c.name, c.from, to, anew)
	}
	for _, side := range [][2]int{{1, 1}, {60, 60}, {1, 60}, {60, 1}, {2, 2}, {3, 3}} {
		holdBytes(t, "spaces", spaces(side[0], side[1]), to, anew)
	}
}

// A grid that is not proper, but has the same numbers, is held cell by cell.
func TestPaintFromWhatIsNotProper(t *testing.T) {
	to := grid("abc", "中_d", "e  ")
	for _, c := range []struct {
		name string
		from []string
		want string
	}{
		{"a 0 alone", []string{"_bc", "中_d", "e  "}, "\x1b[1;1H\x1b[0mabc"},
		{"a wide rune without its second half", []string{"abc", "中xd", "e  "}, "\x1b[2;1H\x1b[0m中d"},
		{"a second half without its rune", []string{"abc", "x_d", "e  "}, "\x1b[2;1H\x1b[0m中d"},
		{"a second half of another style", []string{"abc", "中_d/010", "e  "}, "\x1b[2;1H\x1b[0m中d"},
		{"a wide rune at the end of a row", []string{"abc", "中_d", "e 中"}, "\x1b[3;1H\x1b[0me  "},
		{"a style that is none", []string{"abc/800", "中_d", "e  "}, "\x1b[1;1H\x1b[0mabc"},
		{"runes that are none", []string{"a\u0301c", "中_d", "\x1b  "}, "\x1b[1;1H\x1b[0mabc\x1b[3;1H\x1b[0me  "},
	} {
		holdBytes(t, c.name, grid(c.from...), to, c.want)
	}
	from := grid("abc", "中_d", "e  ")
	for _, c := range []render.Cell{{Rune: 'e', Style: -1}, {Rune: 'e', Style: math.MinInt}, {Rune: 'e', Style: 256}, {Rune: -1}, {Rune: math.MaxInt32}, {Rune: 0xD800}, {Rune: 'e' + 0x110000}} {
		holdBytes(t, "odd cells", changed(from, 6, c), to, "\x1b[3;1H\x1b[0me  ")
	}
}

// P23.1: ErrArg

// improper returns grids that are not proper, for each reason.
func improper() []render.Grid {
	l := []render.Grid{
		{}, {Rows: 1, Columns: 1}, {Rows: 0, Columns: 1, Cells: nil}, {Rows: 60, Columns: 60}, {Rows: -1, Columns: -1, Cells: spaces(1, 1).Cells}, {Rows: math.MinInt, Columns: 2}, {Rows: math.MaxInt, Columns: math.MaxInt, Cells: spaces(1, 1).Cells},
		spaces(61, 1), spaces(1, 61), spaces(61, 61), {Rows: 2, Columns: 2, Cells: spaces(1, 3).Cells}, {Rows: 2, Columns: 2, Cells: spaces(1, 5).Cells},
		grid("ab/80"), grid("ab", "cd/08"), grid("中_/88"), changed(grid("ab"), 1, render.Cell{Rune: 'b', Style: -1}),
		grid("\x1f"), grid("\x7f"), grid("a\u0080"), grid("a", "\u009F"), grid("a\u0301"), grid("\u200Ba"), grid("a\n"), grid("\x1ba"),
		grid("_"), grid("_a"), grid("a_"), grid("中__"), grid("a中", "_b"), grid("中_", "_b"), grid("中_/10"), grid("a中"), grid("中"), grid("中a"), grid("中中_"),
	}
	for _, r := range []rune{-1, math.MinInt32, 0xD800, 0xDFFF, 0x110000, math.MaxInt32} {
		l = append(l, render.Grid{Rows: 1, Columns: 1, Cells: []render.Cell{{Rune: r}}}, changed(grid("ab", "cd"), 3, render.Cell{Rune: r}))
	}
	return l
}

func TestPaintToWhatIsNotProper(t *testing.T) {
	for _, to := range improper() {
		for _, from := range append(improper(), to, spaces(1, 1), spaces(2, 2), grid("ab"), spaces(60, 60)) {
			if b, e := Paint(from, to); b != nil || e != api.ErrArg {
				t.Errorf("Paint(%v, %v): %q, %d", from, to, b, e)
			}
			holdPaint(t, from, to)
		}
	}
}

// P23.1, by the words

// some are the cells that small grids consist of.
var some = []render.Cell{{Rune: 32}, {Rune: 'a'}, {Rune: 'a', Style: 5}, {Rune: '中'}, {}, {Rune: '中', Style: 5}, {Style: 5}}

// allProper returns all proper grids of so many rows and columns of these cells.
func allProper(rows, columns int) []render.Grid {
	var l []render.Grid
	grids(rows, columns, some, func(g render.Grid) {
		if wordsProper(g) {
			l = append(l, render.Grid{Rows: rows, Columns: columns, Cells: slices.Clone(g.Cells)})
		}
	})
	return l
}

func TestPaintAllPairsOfSmallGrids(t *testing.T) {
	var l []render.Grid
	for _, side := range [][2]int{{1, 1}, {1, 2}, {2, 1}, {1, 3}, {2, 2}, {3, 1}} {
		l = append(l, allProper(side[0], side[1])...)
	}
	for _, from := range l {
		for _, to := range l {
			holdPaint(t, from, to)
		}
	}
}

// drawnRunes has the runes that are drawn.
var drawnRunes = []rune{32, 32, 32, 'a', 'b', 'z', '0', ';', '[', 'H', 'm', 'J', '~', 160, 0xE9, 0x20AC, 0xFFFD, 0x10400, 0x10FFFF, '中', '文', 0x1100, 0xFF01, 0x1F600, 0x3FFFD}

// grid draws a proper grid.
func (l *lot) grid(rows, columns int) render.Grid {
	g := spaces(rows, columns)
	styles := 1 + l.draw(8)
	for i := 0; i < len(g.Cells); i++ {
		c := render.Cell{Rune: drawnRunes[l.draw(len(drawnRunes))], Style: l.draw(styles)}
		wide := c.Rune >= 0x1100 && c.Rune != 0x20AC && c.Rune != 0xFFFD && c.Rune != 0x10400 && c.Rune != 0x10FFFF
		if i%columns > 0 && l.draw(3) > 0 {
			c.Style = g.Cells[i-1].Style
		}
		if !wide {
			g.Cells[i] = c
		} else if (i+1)%columns > 0 {
			g.Cells[i], g.Cells[i+1] = c, render.Cell{Style: c.Style}
			i++
		}
	}
	return g
}

// near returns a proper grid with some rows of another one.
func (l *lot) near(g render.Grid) render.Grid {
	n := l.grid(g.Rows, g.Columns)
	for row := range g.Rows {
		if l.draw(3) > 0 {
			copy(n.Cells[row*g.Columns:][:g.Columns], g.Cells[row*g.Columns:])
		}
	}
	return n
}

func TestPaintDrawnGrids(t *testing.T) {
	l := lot(24)
	for i := range 4000 {
		most := 6
		if i%20 == 0 {
			most = 60
		}
		from := l.grid(1+l.draw(most), 1+l.draw(most))
		to := l.near(from)
		holdPaint(t, from, to)
		holdPaint(t, to, from)
		holdPaint(t, l.grid(1+l.draw(most), 1+l.draw(most)), to)
		for range 3 {
			at := l.draw(len(to.Cells))
			odd := changed(to, at, render.Cell{Rune: []rune{0, 'a', '中', 0x301, 27}[l.draw(5)], Style: l.draw(9)})
			holdPaint(t, from, odd)
			holdPaint(t, odd, to)
		}
	}
}
