package render

import (
	"math"
	"slices"
	"strings"
	"testing"

	"stylus/api"
	"stylus/width"
)

// of returns selections with places in pairs: where each is anchored, and where
// its caret is.
func of(places ...int) []api.Sel {
	var l []api.Sel
	for i := 0; i+1 < len(places); i += 2 {
		l = append(l, api.Sel{Anchor: places[i], Head: places[i+1]})
	}
	return l
}

// drawn returns the rows of a grid: of each the runes (with an _ for 0, which no
// sample has otherwise), and the styles.
func drawn(g Grid) []string {
	var l []string
	for row := range slices.Chunk(g.Cells, max(g.Columns, 1)) {
		var runes, styles strings.Builder
		for _, c := range row {
			if c.Rune == 0 {
				c.Rune = '_'
			}
			runes.WriteRune(c.Rune)
			styles.WriteRune('0' + rune(c.Style))
		}
		l = append(l, runes.String(), styles.String())
	}
	return l
}

type sample struct {
	name, text    string
	sels          []api.Sel
	spans         []api.Span
	rows, columns int
	want          []string
}

func holdSamples(t *testing.T, samples []sample) {
	t.Helper()
	for _, c := range samples {
		v := View{Text: []rune(c.text), Sels: c.sels, Spans: c.spans}
		g, e := Show(v, c.rows, c.columns)
		if e != api.OK || g.Rows != c.rows || g.Columns != c.columns || len(g.Cells) != c.rows*c.columns || !slices.Equal(drawn(g), c.want) {
			t.Errorf("%s: %d, %d by %d: %q, want %q", c.name, e, g.Rows, g.Columns, drawn(g), c.want)
		}
		holdShow(t, v, c.rows, c.columns)
	}
}

// P22.2: runes

func TestShowRunes(t *testing.T) {
	end := of(3, 3)
	holdSamples(t, []sample{
		{"no runes: the end", "", of(0, 0), nil, 1, 1, []string{" ", "4"}},
		{"no runes: the end, and cells that no place has", "", of(0, 0), nil, 2, 3, []string{"   ", "400", "   ", "000"}},
		{"in one row", "abc", end, nil, 1, 4, []string{"abc ", "0004"}},
		{"cells that no place has", "abc", end, nil, 2, 6, []string{"abc   ", "000400", "      ", "000000"}},
		{"in two rows", "abc", end, nil, 2, 2, []string{"ab", "00", "c ", "04"}},
		{"in one column", "abc", end, nil, 5, 1, []string{"a", "0", "b", "0", "c", "0", " ", "4", " ", "0"}},
		{"the end where a row is just full", "abc", end, nil, 2, 3, []string{"abc", "000", "   ", "400"}},
		{"a rune 10 is a space", "a\nb", end, nil, 2, 3, []string{"a  ", "000", "b  ", "040"}},
		{"a rune 10 at first", "\nab", end, nil, 2, 3, []string{"   ", "000", "ab ", "004"}},
		{"a rune 10 at last", "ab\n", end, nil, 2, 3, []string{"ab ", "000", "   ", "400"}},
		{"several runes 10", "\n\n\n", end, nil, 4, 2, []string{"  ", "00", "  ", "00", "  ", "00", "  ", "40"}},
		{"a rune 10 where a row is just full", "ab\nc", of(4, 4), nil, 4, 2, []string{"ab", "00", "  ", "00", "c ", "04", "  ", "00"}},
		{"a rune 10 and the end where a row is just full", "ab\n", end, nil, 3, 2, []string{"ab", "00", "  ", "00", "  ", "40"}},
		{"a wide rune", "a中b", end, nil, 1, 5, []string{"a中_b ", "00004"}},
		{"a wide rune where two columns are left", "a中b", end, nil, 2, 3, []string{"a中_", "000", "b  ", "040"}},
		{"a wide rune where one column is left", "a中b", end, nil, 3, 2, []string{"a ", "00", "中_", "00", "b ", "04"}},
		{"a wide rune where no column is left", "ab中", end, nil, 3, 2, []string{"ab", "00", "中_", "00", "  ", "40"}},
		{"a wide rune in the only column", "a中b", end, nil, 4, 1, []string{"a", "0", "?", "0", "b", "0", " ", "4"}},
		{"wide runes, three columns", "中文中", end, nil, 3, 3, []string{"中_ ", "000", "文_ ", "000", "中_ ", "004"}},
		{"wide runes of all kinds", "\u1100\u3042\uff21", end, nil, 1, 7, []string{"\u1100_\u3042_\uff21_ ", "0000004"}},
		{"runes of width 0 are not shown", "e\u0301\u0302", end, nil, 1, 4, []string{"e   ", "0400"}},
		{"one of width 0 at first", "\u0301ab", end, nil, 1, 4, []string{"ab  ", "0040"}},
		{"one of width 0 between", "a\u0301b", end, nil, 1, 4, []string{"ab  ", "0040"}},
		{"one of width 0 behind a full row", "ab\u0301c", of(4, 4), nil, 2, 2, []string{"ab", "00", "c ", "04"}},
		{"one of width 0 behind a wide rune", "中\u0301a", end, nil, 1, 5, []string{"中_a  ", "00040"}},
		{"one of width 0 ahead of a wide rune", "a\u0301中", end, nil, 1, 5, []string{"a中_  ", "00040"}},
		{"one of width 0 ahead of a wide rune that has no room", "a\u0301中", end, nil, 3, 2, []string{"a ", "00", "中_", "00", "  ", "40"}},
		{"runes below 32", "\t\x1b\r", end, nil, 1, 4, []string{"??? ", "0004"}},
		{"0, 1 and 31", "\x00\x01\x1f", end, nil, 1, 4, []string{"??? ", "0004"}},
		{"9 and 11, beside 10", "\t\n\v", end, nil, 2, 3, []string{"?  ", "000", "?  ", "040"}},
		{"32, 33 and 126", " !~", end, nil, 1, 4, []string{" !~ ", "0004"}},
		{"127 to 159", "\u007f\u0080\u009f", end, nil, 1, 4, []string{"??? ", "0004"}},
		{"160, 161 and 65533", "\u00a0\u00a1\ufffd", end, nil, 1, 4, []string{"\u00a0\u00a1\ufffd ", "0004"}},
		{"a question mark", "a?b", end, nil, 1, 4, []string{"a?b ", "0004"}},
	})
}

// Each rune is shown as it should be, whatever it is.
func TestShowAllRunes(t *testing.T) {
	hold := func(r rune, columns int) {
		v := View{Text: []rune{r}, Sels: of(1, 1), Spans: []api.Span{{To: 1}}}
		want := []Cell{{Rune: r, Style: 2}, {Rune: 32}, {Rune: 32}}[:columns]
		if r < 32 || r >= 127 && r <= 159 {
			want[0].Rune = '?'
		}
		end := 1
		switch w := width.Of(r); {
		case r == 10:
			want[0].Rune = 32
			end = columns // that of the next row
		case w == 0:
			want[0].Rune = 32
			end = 0
		case w == 2 && columns == 1:
			want[0].Rune = '?'
		case w == 2:
			want[1] = Cell{Style: 2}
			end = 2
		}
		if end < columns {
			want[end].Style |= 4
			want = append(want, slices.Repeat([]Cell{{Rune: 32}}, columns)...)
		} else {
			want = append(want, Cell{Rune: 32, Style: 4}, Cell{Rune: 32}, Cell{Rune: 32})[:2*columns]
		}
		if g, e := Show(v, 2, columns); e != api.OK || !slices.Equal(g.Cells, want) {
			t.Fatalf("rune %x, %d columns: %v, %d, want %v", r, columns, g, e, want)
		}
	}
	for columns := 1; columns <= 3; columns++ {
		for r := rune(-70000); r < 0x120000; r++ {
			hold(r, columns)
		}
		for near := range rune(1000) {
			hold(math.MinInt32+near, columns)
			hold(math.MaxInt32-near, columns)
		}
	}
}

func TestShowRunesThatAreNotValid(t *testing.T) {
	runes := []rune{-1, math.MinInt32, 55295, 55296, 56319, 56320, 57343, 57344, 1114111, 1114112, math.MaxInt32}
	g, e := Show(View{Text: runes, Sels: of(11, 11)}, 1, 12)
	want := []rune{'?', '?', 55295, 55296, 56319, 56320, 57343, 57344, 1114111, 1114112, math.MaxInt32, 32}
	for i, c := range g.Cells {
		if c.Rune != want[i] || c.Style != i/11*4 {
			t.Errorf("%x: %v, %d", want[i], c, e)
		}
	}
	if len(g.Cells) != 12 {
		t.Errorf("%v, %d", g, e)
	}
}

// P22.2: selections

func TestShowSelections(t *testing.T) {
	holdSamples(t, []sample{
		{"forward", "abcd", of(1, 3), nil, 1, 5, []string{"abcd ", "01140"}},
		{"backward", "abcd", of(3, 1), nil, 1, 5, []string{"abcd ", "05100"}},
		{"empty", "abcd", of(2, 2), nil, 1, 5, []string{"abcd ", "00400"}},
		{"one rune", "abcd", of(2, 3), nil, 1, 5, []string{"abcd ", "00140"}},
		{"one rune, backward", "abcd", of(3, 2), nil, 1, 5, []string{"abcd ", "00500"}},
		{"from 0", "abcd", of(0, 2), nil, 1, 5, []string{"abcd ", "11400"}},
		{"to the end", "abcd", of(2, 4), nil, 1, 5, []string{"abcd ", "00114"}},
		{"back from the end, which is not in it", "abcd", of(4, 2), nil, 1, 5, []string{"abcd ", "00510"}},
		{"everything", "abcd", of(0, 4), nil, 1, 5, []string{"abcd ", "11114"}},
		{"everything, backward", "abcd", of(4, 0), nil, 1, 5, []string{"abcd ", "51110"}},
		{"in no runes", "", of(0, 0), nil, 1, 2, []string{"  ", "40"}},
		{"over two rows", "abcd", of(1, 3), nil, 3, 2, []string{"ab", "01", "cd", "14", "  ", "00"}},
		{"a rune 10", "a\nb", of(1, 2), nil, 2, 3, []string{"a  ", "010", "b  ", "400"}},
		{"a rune 10, backward", "a\nb", of(2, 1), nil, 2, 3, []string{"a  ", "050", "b  ", "000"}},
		{"over a rune 10", "a\nb", of(0, 3), nil, 2, 3, []string{"a  ", "110", "b  ", "140"}},
		{"several runes 10", "\n\n\n", of(3, 1), nil, 4, 2, []string{"  ", "00", "  ", "50", "  ", "10", "  ", "00"}},
		{"a rune 10 where a row is just full", "ab\nc", of(2, 3), nil, 3, 2, []string{"ab", "00", "  ", "10", "c ", "40"}},
		{"a wide rune", "a中b", of(1, 2), nil, 1, 5, []string{"a中_b ", "01140"}},
		{"a wide rune, backward", "a中b", of(2, 1), nil, 1, 5, []string{"a中_b ", "05500"}},
		{"a wide rune in the next row: nothing where it had no room", "a中b", of(0, 3), nil, 3, 2, []string{"a ", "10", "中_", "11", "b ", "14"}},
		{"a wide rune in the only column", "中a", of(1, 0), nil, 3, 1, []string{"?", "5", "a", "0", " ", "0"}},
		{"a rune of width 0", "a\u0301bc", of(2, 1), nil, 1, 5, []string{"abc  ", "05000"}},
		{"a rune of width 0, the caret behind it", "a\u0301bc", of(1, 2), nil, 1, 5, []string{"abc  ", "05000"}},
		{"several of width 0", "a\u0301\u0301\u0301b", of(1, 4), nil, 1, 4, []string{"ab  ", "0500"}},
		{"one of width 0, another caret first", "a\u0301b", of(3, 3, 1, 2), nil, 1, 4, []string{"ab  ", "0540"}},
		{"a rune, and one of width 0 behind it", "e\u0301f", of(0, 2), nil, 1, 4, []string{"ef  ", "1500"}},
		{"one of width 0, and the rune behind it", "e\u0301f", of(1, 3), nil, 1, 4, []string{"ef  ", "0140"}},
		{"one of width 0, and the rune behind it, backward", "e\u0301f", of(3, 1), nil, 1, 4, []string{"ef  ", "0500"}},
		{"the rune behind one of width 0 alone", "e\u0301f", of(3, 2), nil, 1, 4, []string{"ef  ", "0500"}},
		{"one of width 0 ahead of a rune 10", "a\u0301\nb", of(1, 2), nil, 2, 3, []string{"a  ", "050", "b  ", "000"}},
		{"one of width 0 at last", "a\u0301", of(1, 2), nil, 1, 3, []string{"a  ", "050"}},
		{"a rune below 32", "\ta", of(0, 1), nil, 1, 3, []string{"?a ", "140"}},
	})
}

func TestShowSeveralSelections(t *testing.T) {
	holdSamples(t, []sample{
		{"apart", "abcdefg", of(0, 1, 2, 3, 6, 5), nil, 1, 8, []string{"abcdefg ", "14140500"}},
		{"touching", "abcdefg", of(1, 3, 3, 5), nil, 1, 8, []string{"abcdefg ", "01151400"}},
		{"touching, backward", "abcdefg", of(3, 1, 5, 3), nil, 1, 8, []string{"abcdefg ", "05151000"}},
		{"overlapping", "abcdefg", of(1, 4, 3, 6), nil, 1, 8, []string{"abcdefg ", "01115140"}},
		{"one in the other", "abcdefg", of(1, 6, 4, 3), nil, 1, 8, []string{"abcdefg ", "01151140"}},
		{"the smaller one first", "abcdefg", of(4, 3, 1, 6), nil, 1, 8, []string{"abcdefg ", "01151140"}},
		{"in no order", "abcdefg", of(5, 6, 0, 1, 3, 3), nil, 1, 8, []string{"abcdefg ", "14040140"}},
		{"the same one twice", "abcdefg", of(2, 4, 2, 4), nil, 1, 8, []string{"abcdefg ", "00114000"}},
		{"the same one, there and back", "abcdefg", of(2, 4, 4, 2), nil, 1, 8, []string{"abcdefg ", "00514000"}},
		{"the same caret twice", "abcdefg", of(2, 2, 2, 2), nil, 1, 8, []string{"abcdefg ", "00400000"}},
		{"one place, from both sides", "abcdefg", of(1, 3, 5, 3), nil, 1, 8, []string{"abcdefg ", "01151000"}},
		{"an empty one in another one", "abcdefg", of(1, 5, 3, 3), nil, 1, 8, []string{"abcdefg ", "01151400"}},
		{"all places", "abc", of(0, 0, 1, 1, 2, 2, 3, 3), nil, 1, 5, []string{"abc  ", "44440"}},
		{"in two rows", "ab\ncd", of(1, 0, 4, 5), nil, 2, 3, []string{"ab ", "500", "cd ", "014"}},
		{"more than sixteen", "ab", of(0, 1, 0, 1, 0, 1, 0, 1, 0, 1, 0, 1, 0, 1, 0, 1, 0, 1, 0, 1, 0, 1, 0, 1, 0, 1, 0, 1, 0, 1, 0, 1, 2, 2), nil, 1, 4, []string{"ab  ", "1440"}},
	})
}

// P22.2: carets

func TestShowCarets(t *testing.T) {
	holdSamples(t, []sample{
		{"on a rune of width 1", "abc", of(1, 1), nil, 1, 4, []string{"abc ", "0400"}},
		{"on a wide rune: both cells", "a中b", of(1, 1), nil, 1, 5, []string{"a中_b ", "04400"}},
		{"on a wide rune in the next row", "a中b", of(1, 1), nil, 3, 2, []string{"a ", "00", "中_", "44", "b ", "00"}},
		{"on a wide rune in the only column", "a中", of(1, 1), nil, 3, 1, []string{"a", "0", "?", "4", " ", "0"}},
		{"behind a wide rune", "中a", of(1, 1), nil, 1, 4, []string{"中_a ", "0040"}},
		{"on a rune below 32", "a\t", of(1, 1), nil, 1, 3, []string{"a? ", "040"}},
		{"on a rune 10", "a\nb", of(1, 1), nil, 2, 3, []string{"a  ", "040", "b  ", "000"}},
		{"on a rune 10 at first", "\nb", of(0, 0), nil, 2, 3, []string{"   ", "400", "b  ", "000"}},
		{"on the second rune 10", "\n\n\n", of(1, 1), nil, 4, 2, []string{"  ", "00", "  ", "40", "  ", "00", "  ", "00"}},
		{"on a rune 10 where a row is just full", "ab\nc", of(2, 2), nil, 3, 2, []string{"ab", "00", "  ", "40", "c ", "00"}},
		{"after it", "ab\nc", of(3, 3), nil, 3, 2, []string{"ab", "00", "  ", "00", "c ", "40"}},
		{"at the end", "ab", of(2, 2), nil, 1, 3, []string{"ab ", "004"}},
		{"at the end where a row is just full", "ab", of(2, 2), nil, 2, 2, []string{"ab", "00", "  ", "40"}},
		{"at the end where a wide rune fills a row", "中", of(1, 1), nil, 2, 2, []string{"中_", "00", "  ", "40"}},
		{"at the end after a rune 10", "ab\n", of(3, 3), nil, 2, 3, []string{"ab ", "000", "   ", "400"}},
		{"on a rune of width 0: that with the same cell", "e\u0301f", of(1, 1), nil, 1, 4, []string{"ef  ", "0400"}},
		{"behind one of width 0", "e\u0301f", of(2, 2), nil, 1, 4, []string{"ef  ", "0400"}},
		{"on one of width 0 and behind it", "e\u0301f", of(1, 1, 2, 2), nil, 1, 4, []string{"ef  ", "0400"}},
		{"on the first of several of width 0", "e\u0301\u0302\u0303f", of(1, 1), nil, 1, 4, []string{"ef  ", "0400"}},
		{"on the last of several of width 0", "e\u0301\u0302\u0303f", of(3, 3), nil, 1, 4, []string{"ef  ", "0400"}},
		{"on one of width 0 at first", "\u0301f", of(0, 0), nil, 1, 3, []string{"f  ", "400"}},
		{"on one of width 0 ahead of a wide rune: both cells", "e\u0301中", of(1, 1), nil, 1, 4, []string{"e中_ ", "0440"}},
		{"on one of width 0 at first, ahead of a wide rune", "\u0301中", of(0, 0), nil, 1, 3, []string{"中_ ", "440"}},
		{"on one of width 0 ahead of a rune 10", "e\u0301\nf", of(1, 1), nil, 2, 3, []string{"e  ", "040", "f  ", "000"}},
		{"on one of width 0 behind a rune 10", "e\n\u0301f", of(2, 2), nil, 2, 3, []string{"e  ", "000", "f  ", "400"}},
		{"on one of width 0 at last", "e\u0301", of(1, 1), nil, 1, 3, []string{"e  ", "040"}},
		{"on one of width 0 behind a full row", "ab\u0301c", of(2, 2), nil, 2, 2, []string{"ab", "00", "c ", "40"}},
		{"on one of width 0 behind a full row, ahead of a rune 10", "ab\u0301\nc", of(2, 2), nil, 3, 2, []string{"ab", "00", "  ", "40", "c ", "00"}},
		{"on one of width 0 behind a full row, at last", "ab\u0301", of(2, 2), nil, 2, 2, []string{"ab", "00", "  ", "40"}},
		{"on one of width 0 alone", "\u0301", of(0, 0), nil, 1, 2, []string{"  ", "40"}},
		{"on one of width 0 ahead of a wide rune, one column", "a\u0301中", of(1, 1), nil, 3, 1, []string{"a", "0", "?", "4", " ", "0"}},
		{"on a rune where a wide one had no room: not in the cell that is left", "a中", of(0, 0), nil, 2, 2, []string{"a ", "40", "中_", "00"}},
		{"several", "ab\n中", of(0, 0, 2, 2, 3, 3, 4, 4), nil, 2, 4, []string{"ab  ", "4040", "中_  ", "4440"}},
	})
}

// A rune of width 0 has the last column, and the wide one behind it does not:
// the cell is that of the rune of width 0 alone.
func TestShowACaretWhereNoRuneTakesTheCell(t *testing.T) {
	holdSamples(t, []sample{
		{"a caret", "a\u0301中", of(1, 1), nil, 3, 2, []string{"a ", "04", "中_", "00", "  ", "00"}},
		{"no caret", "a\u0301中", of(0, 0), nil, 3, 2, []string{"a ", "40", "中_", "00", "  ", "00"}},
		{"a caret behind it", "a\u0301中", of(2, 2), nil, 3, 2, []string{"a ", "00", "中_", "44", "  ", "00"}},
		{"the second of two", "a\u0301\u0301中", of(2, 2), nil, 3, 2, []string{"a ", "04", "中_", "00", "  ", "00"}},
		{"no room in one row: the caret is on the grid", "a\u0301中", of(1, 1), nil, 1, 2, []string{"a ", "04"}},
		{"selected and in a field", "a\u0301中", of(2, 1), []api.Span{{From: 1, To: 2}}, 2, 2, []string{"a ", "07", "中_", "00"}},
		{"selected, all of it", "a\u0301中", of(0, 3), []api.Span{{From: 0, To: 3}}, 3, 2, []string{"a ", "33", "中_", "33", "  ", "40"}},
		{"another caret there, above what is shown", "a\u0301中", of(3, 3, 1, 1), nil, 2, 2, []string{"中_", "00", "  ", "40"}},
	})
}

// P22.2: spans

func TestShowSpans(t *testing.T) {
	far := of(4, 4)
	holdSamples(t, []sample{
		{"none: nil", "abcd", far, nil, 1, 5, []string{"abcd ", "00004"}},
		{"none: empty", "abcd", far, make([]api.Span, 0, 3), 1, 5, []string{"abcd ", "00004"}},
		{"one", "abcd", far, []api.Span{{From: 1, To: 3}}, 1, 5, []string{"abcd ", "02204"}},
		{"one rune", "abcd", far, []api.Span{{From: 1, To: 2}}, 1, 5, []string{"abcd ", "02004"}},
		{"from 0", "abcd", far, []api.Span{{From: 0, To: 2}}, 1, 5, []string{"abcd ", "22004"}},
		{"to the end, which is not in it", "abcd", far, []api.Span{{From: 2, To: 4}}, 1, 5, []string{"abcd ", "00224"}},
		{"everything", "abcd", far, []api.Span{{From: 0, To: 4}}, 1, 5, []string{"abcd ", "22224"}},
		{"of nothing", "abcd", far, []api.Span{{From: 2, To: 2}}, 1, 5, []string{"abcd ", "00004"}},
		{"of nothing at 0", "abcd", far, []api.Span{{From: 0, To: 0}}, 1, 5, []string{"abcd ", "00004"}},
		{"of nothing at the end", "abcd", far, []api.Span{{From: 4, To: 4}}, 1, 5, []string{"abcd ", "00004"}},
		{"of nothing in no runes", "", of(0, 0), []api.Span{{From: 0, To: 0}}, 1, 2, []string{"  ", "40"}},
		{"several", "abcd", far, []api.Span{{From: 0, To: 1}, {From: 2, To: 3}}, 1, 5, []string{"abcd ", "20204"}},
		{"in no order", "abcd", far, []api.Span{{From: 3, To: 4}, {From: 0, To: 1}}, 1, 5, []string{"abcd ", "20024"}},
		{"one in the other", "abcd", far, []api.Span{{From: 0, To: 3}, {From: 1, To: 2}}, 1, 5, []string{"abcd ", "22204"}},
		{"overlapping", "abcd", far, []api.Span{{From: 0, To: 2}, {From: 1, To: 3}}, 1, 5, []string{"abcd ", "22204"}},
		{"touching", "abcd", far, []api.Span{{From: 0, To: 2}, {From: 2, To: 3}}, 1, 5, []string{"abcd ", "22204"}},
		{"the same one twice", "abcd", far, []api.Span{{From: 1, To: 2}, {From: 1, To: 2}}, 1, 5, []string{"abcd ", "02004"}},
		{"of nothing in another one", "abcd", far, []api.Span{{From: 1, To: 3}, {From: 2, To: 2}}, 1, 5, []string{"abcd ", "02204"}},
		{"over two rows", "abcd", far, []api.Span{{From: 1, To: 3}}, 3, 2, []string{"ab", "02", "cd", "20", "  ", "40"}},
		{"a rune 10", "ab\nc", far, []api.Span{{From: 2, To: 3}}, 2, 4, []string{"ab  ", "0020", "c   ", "0400"}},
		{"over a rune 10", "ab\nc", far, []api.Span{{From: 1, To: 4}}, 2, 4, []string{"ab  ", "0220", "c   ", "2400"}},
		{"a rune 10 where a row is just full", "ab\nc", far, []api.Span{{From: 2, To: 3}}, 3, 2, []string{"ab", "00", "  ", "20", "c ", "04"}},
		{"a wide rune: both cells", "ab中c", far, []api.Span{{From: 2, To: 3}}, 1, 6, []string{"ab中_c ", "002204"}},
		{"over a wide rune", "ab中c", far, []api.Span{{From: 1, To: 4}}, 1, 6, []string{"ab中_c ", "022224"}},
		{"a wide rune in the only column", "a中", of(2, 2), []api.Span{{From: 1, To: 2}}, 3, 1, []string{"a", "0", "?", "2", " ", "4"}},
		{"a rune of width 0", "a\u0301bc", far, []api.Span{{From: 1, To: 2}}, 1, 5, []string{"abc  ", "02040"}},
		{"several of width 0", "a\u0301\u0301c", far, []api.Span{{From: 1, To: 3}}, 1, 5, []string{"ac   ", "02400"}},
		{"one of width 0, ahead of a rune 10", "a\u0301\nc", far, []api.Span{{From: 1, To: 2}}, 2, 3, []string{"a  ", "020", "c  ", "040"}},
		{"one of width 0 at last", "abc\u0301", far, []api.Span{{From: 3, To: 4}}, 1, 5, []string{"abc  ", "00060"}},
		{"a rune and one of width 0 behind it", "ab\u0301c", far, []api.Span{{From: 1, To: 3}}, 1, 5, []string{"abc  ", "02240"}},
		{"one of width 0 and the rune behind it", "ab\u0301c", far, []api.Span{{From: 2, To: 4}}, 1, 5, []string{"abc  ", "00240"}},
	})
}

// P22.2: sums of styles

func TestShowSums(t *testing.T) {
	field := []api.Span{{From: 1, To: 3}}
	holdSamples(t, []sample{
		{"0, 2, 3, 1 and 4", "abcd", of(2, 4), field, 1, 5, []string{"abcd ", "02314"}},
		{"5", "abcd", of(4, 3), field, 1, 5, []string{"abcd ", "02250"}},
		{"6", "abcd", of(2, 2), field, 1, 5, []string{"abcd ", "02600"}},
		{"7", "abcd", of(4, 2), field, 1, 5, []string{"abcd ", "02710"}},
		{"on a wide rune: 1", "a中b", of(1, 2), nil, 1, 5, []string{"a中_b ", "01140"}},
		{"on a wide rune: 3", "a中b", of(1, 3), field, 1, 5, []string{"a中_b ", "03334"}},
		{"on a wide rune: 6", "a中b", of(1, 1), field, 1, 5, []string{"a中_b ", "06620"}},
		{"on a wide rune: 7", "a中b", of(2, 1), field, 1, 5, []string{"a中_b ", "07720"}},
		{"on a rune 10: 1", "a\nb", of(1, 2), nil, 2, 3, []string{"a  ", "010", "b  ", "400"}},
		{"on a rune 10: 2", "a\nb", of(0, 0), field, 2, 3, []string{"a  ", "420", "b  ", "200"}},
		{"on a rune 10: 3", "a\nb", of(1, 2), field, 2, 3, []string{"a  ", "030", "b  ", "600"}},
		{"on a rune 10: 4", "a\nb", of(1, 1), nil, 2, 3, []string{"a  ", "040", "b  ", "000"}},
		{"on a rune 10: 5", "a\nb", of(3, 1), nil, 2, 3, []string{"a  ", "050", "b  ", "100"}},
		{"on a rune 10: 6", "a\nb", of(1, 1), field, 2, 3, []string{"a  ", "060", "b  ", "200"}},
		{"on a rune 10: 7", "a\nb", of(2, 1), field, 2, 3, []string{"a  ", "070", "b  ", "200"}},
		{"on a space: 7", "a b", of(2, 1), field, 1, 4, []string{"a b ", "0720"}},
		{"at the end: 4 alone", "abc", of(0, 3), []api.Span{{From: 0, To: 3}, {From: 3, To: 3}}, 1, 4, []string{"abc ", "3334"}},
		{"on a rune below 32: 7", "a\tb", of(2, 1), field, 1, 4, []string{"a?b ", "0720"}},
		{"by several selections and spans", "abcd", of(1, 3, 3, 1, 2, 2), []api.Span{{From: 1, To: 3}, {From: 2, To: 4}}, 1, 5, []string{"abcd ", "07760"}},
	})
}

// Each sum from 0 to 7, on a rune of each kind.
func TestShowEachSum(t *testing.T) {
	for _, text := range []string{"xabc", "x中bc", "x\nbc", "x\tbc", "x bc"} {
		for style := range 8 {
			v := View{Text: []rune(text), Sels: of(4, 4)}
			switch style & 5 {
			case 1:
				v.Sels = of(1, 2)
			case 4:
				v.Sels = of(1, 1)
			case 5:
				v.Sels = of(2, 1)
			}
			if style&2 != 0 {
				v.Spans = []api.Span{{From: 1, To: 2}}
			}
			g, e := Show(v, 2, 8)
			if e != api.OK || g.Cells[0] != (Cell{Rune: 'x'}) || g.Cells[1].Style != style {
				t.Errorf("%q, %d: %v, %d", text, style, g, e)
			}
			holdShow(t, v, 2, 8)
		}
	}
}

// What several places with the same cell have is combined.
func TestShowPlacesWithTheSameCell(t *testing.T) {
	field := []api.Span{{From: 2, To: 3}}
	holdSamples(t, []sample{
		{"4 and 0", "a\u0301b", of(1, 1), nil, 1, 4, []string{"ab  ", "0400"}},
		{"4 and 1", "a\u0301b", of(1, 1, 2, 3), nil, 1, 4, []string{"ab  ", "0540"}},
		{"4 and 2", "a\u0301b", of(1, 1), field, 1, 4, []string{"ab  ", "0600"}},
		{"4 and 3", "a\u0301b", of(3, 1), field, 1, 4, []string{"ab  ", "0700"}},
		{"4, 4 and 3", "a\u0301b", of(3, 1, 2, 2), field, 1, 4, []string{"ab  ", "0700"}},
		{"4 and 3, a wide rune", "a\u0301中", of(3, 1), field, 1, 4, []string{"a中_ ", "0770"}},
		{"4 and 1, a wide rune", "a\u0301中", of(3, 1), nil, 1, 4, []string{"a中_ ", "0550"}},
		{"4 and 2, a wide rune", "a\u0301中", of(1, 1), field, 1, 4, []string{"a中_ ", "0660"}},
		{"4 and 3, a rune 10", "a\u0301\n", of(3, 1), field, 2, 3, []string{"a  ", "070", "   ", "000"}},
		{"4 and 1, a rune 10", "a\u0301\n", of(3, 1), nil, 2, 3, []string{"a  ", "050", "   ", "000"}},
		{"4 and 0, the end", "a\u0301", of(1, 1), nil, 1, 3, []string{"a  ", "040"}},
		{"4 and 4, the end", "a\u0301", of(1, 1, 2, 2), nil, 1, 3, []string{"a  ", "040"}},
		{"4 and 3, behind a full row", "ab\u0301c", of(4, 2), []api.Span{{From: 3, To: 4}}, 2, 2, []string{"ab", "00", "c ", "70"}},
		{"4 and 3, behind a full row, a rune 10", "ab\u0301\n", of(4, 2), []api.Span{{From: 3, To: 4}}, 3, 2, []string{"ab", "00", "  ", "70", "  ", "00"}},
	})
}

// P22.2: the first row that is shown

func TestShowFirstRow(t *testing.T) {
	lines := "a\nb\nc\nd\ne"
	holdSamples(t, []sample{
		{"the primary caret in row 0", lines, of(0, 0), nil, 3, 2, []string{"a ", "40", "b ", "00", "c ", "00"}},
		{"in a row between", lines, of(2, 2), nil, 3, 2, []string{"a ", "00", "b ", "40", "c ", "00"}},
		{"in the last row shown", lines, of(4, 4), nil, 3, 2, []string{"a ", "00", "b ", "00", "c ", "40"}},
		{"in the last row shown, at a rune 10", lines, of(5, 5), nil, 3, 2, []string{"a ", "00", "b ", "00", "c ", "04"}},
		{"one beyond it", lines, of(6, 6), nil, 3, 2, []string{"b ", "00", "c ", "00", "d ", "40"}},
		{"one beyond it, at a rune 10", lines, of(7, 7), nil, 3, 2, []string{"b ", "00", "c ", "00", "d ", "04"}},
		{"two beyond it", lines, of(8, 8), nil, 3, 2, []string{"c ", "00", "d ", "00", "e ", "40"}},
		{"the end, two beyond it", lines, of(9, 9), nil, 3, 2, []string{"c ", "00", "d ", "00", "e ", "04"}},
		{"one row, at its place", lines, of(4, 4), nil, 1, 2, []string{"c ", "40"}},
		{"one row, the first one", lines, of(1, 1), nil, 1, 2, []string{"a ", "04"}},
		{"as many rows as there are", lines, of(8, 8), nil, 5, 2, []string{"a ", "00", "b ", "00", "c ", "00", "d ", "00", "e ", "40"}},
		{"more rows than there are", lines, of(8, 8), nil, 6, 2, []string{"a ", "00", "b ", "00", "c ", "00", "d ", "00", "e ", "40", "  ", "00"}},
		{"one row fewer than there are, at the end", lines, of(8, 8), nil, 4, 2, []string{"b ", "00", "c ", "00", "d ", "00", "e ", "40"}},
		{"one row fewer than there are, at first", lines, of(0, 0), nil, 4, 2, []string{"a ", "40", "b ", "00", "c ", "00", "d ", "00"}},
		{"the Head counts, not the Anchor", lines, of(8, 0), nil, 2, 2, []string{"a ", "51", "b ", "11"}},
		{"the Head counts, not the Anchor", lines, of(0, 8), nil, 2, 2, []string{"d ", "11", "e ", "40"}},
		{"the first selection counts, not the last one", lines, of(0, 0, 8, 8), nil, 2, 2, []string{"a ", "40", "b ", "00"}},
		{"the first selection counts, not the one in front", lines, of(8, 8, 0, 0), nil, 2, 2, []string{"d ", "00", "e ", "40"}},
		{"the first of three", lines, of(4, 4, 0, 0, 8, 8), nil, 2, 2, []string{"b ", "00", "c ", "40"}},
		{"carets above and below what is shown", lines, of(4, 4, 0, 0, 2, 2, 6, 6, 8, 8), nil, 2, 2, []string{"b ", "40", "c ", "40"}},
		{"selections and fields that go on above and below", lines, of(4, 4, 0, 9), []api.Span{{From: 1, To: 8}}, 2, 2, []string{"b ", "33", "c ", "73"}},
		{"no room beyond a row that was wrapped", "abcdef", of(5, 5), nil, 2, 2, []string{"cd", "00", "ef", "04"}},
		{"the end in the row after that", "abcdef", of(6, 6), nil, 2, 2, []string{"ef", "00", "  ", "40"}},
		{"a wide rune that has no room in the last row", "abc中", of(3, 3), nil, 2, 2, []string{"c ", "00", "中_", "44"}},
		{"a wide rune in the last row", "ab中c", of(2, 2), nil, 2, 2, []string{"ab", "00", "中_", "44"}},
		{"a wide rune below the last row", "ab中c", of(0, 0), nil, 1, 2, []string{"ab", "40"}},
		{"a wide rune above the first row", "中a", of(1, 1), nil, 1, 2, []string{"a ", "40"}},
		{"the end behind a full row", "ab", of(2, 2), nil, 1, 2, []string{"  ", "40"}},
		{"the end behind a wide rune that fills a row", "中", of(1, 1), nil, 1, 2, []string{"  ", "40"}},
		{"a rune 10 behind a full row", "ab\n", of(2, 2), nil, 1, 2, []string{"  ", "40"}},
		{"the end behind that", "ab\n", of(3, 3), nil, 1, 2, []string{"  ", "40"}},
		{"a rune 10 behind a full row, two rows", "ab\nc", of(2, 2), nil, 2, 2, []string{"ab", "00", "  ", "40"}},
		{"what is behind it", "ab\nc", of(3, 3), nil, 2, 2, []string{"  ", "00", "c ", "40"}},
		{"a rune of width 0 behind a full row", "ab\u0301c", of(2, 2), nil, 1, 2, []string{"c ", "40"}},
	})
}

// The row of the primary caret is at each distance from what is shown.
func TestShowFirstRowOfAllNumbersOfRows(t *testing.T) {
	const n = 200
	var text []rune
	for row := range n {
		text = append(text, rune(0x4E00+row), 10)
	}
	for rows := 1; rows <= 60; rows++ {
		for row := range n {
			g, e := Show(View{Text: text, Sels: of(2*row, 2*row)}, rows, 3)
			first := 0
			if row >= rows {
				first = row - rows + 1
			}
			if e != api.OK || len(g.Cells) != 3*rows {
				t.Fatalf("%d rows, row %d: %v, %d", rows, row, g, e)
			}
			for i := range rows {
				want := Cell{Rune: rune(0x4E00 + first + i)}
				if first+i == row {
					want.Style = 4
				}
				if first+i < n && g.Cells[3*i] != want {
					t.Errorf("%d rows, row %d: row %d has %v, want %v", rows, row, i, g.Cells[3*i], want)
				}
			}
		}
	}
}

// P22.2: grids

func TestShowTheLargestGrid(t *testing.T) {
	text := []rune(strings.Repeat("a", 59) + two + strings.Repeat("b", 3600))
	for head, corner := range map[int][2]rune{0: {'a', 'b'}, 59: {'a', 'b'}, 3597: {'a', 'b'}, 3598: {'中', 'b'}, 3660: {'b', ' '}} {
		v := View{Text: text, Sels: of(head, head)}
		g, e := Show(v, 60, 60)
		if e != api.OK || len(g.Cells) != 3600 || g.Rows != 60 || g.Columns != 60 || g.Cells[0].Rune != corner[0] || g.Cells[3599].Rune != corner[1] {
			t.Errorf("%d: %d, %d by %d, %v, %v", head, e, g.Rows, g.Columns, g.Cells[0], g.Cells[3599])
		}
		holdShow(t, v, 60, 60)
	}
}

func TestShowGridsOfOneRowOrColumn(t *testing.T) {
	text := []rune(strings.Repeat("ab中\n\u0301", 30))
	for head := range len(text) + 1 {
		for _, side := range [][2]int{{1, 1}, {1, 2}, {2, 1}, {1, 59}, {1, 60}, {59, 1}, {60, 1}, {2, 2}, {59, 60}, {60, 59}, {60, 60}} {
			holdShow(t, View{Text: text, Sels: of(head/2, head), Spans: []api.Span{{From: head / 3, To: head}}}, side[0], side[1])
		}
	}
}
