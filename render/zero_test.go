package render

import (
	"slices"
	"strings"
	"testing"

	"stylus/api"
	"stylus/width"
)

// P22.2: a rune of width 0 has a row and a column, and so its style belongs to
// the cell there, whatever takes that cell.

func at(from, to int) []api.Span {
	return []api.Span{{From: from, To: to}}
}

// The caret of a selection may be away from the cell.
func TestRunesOfWidthZero(t *testing.T) {
	holdSamples(t, []sample{
		{"selected from the end, the caret ahead", "a\u0301", of(2, 0), nil, 1, 3, []string{"a  ", "510"}},
		{"selected ahead of a rune, which has the caret", "e\u0301f", of(1, 2), nil, 1, 3, []string{"ef ", "050"}},
		{"in a field, ahead of a rune that is in none", "e\u0301f", of(0, 0), at(1, 2), 1, 3, []string{"ef ", "420"}},
		{"in a field, ahead of a wide rune that is in none", "\u0301中", of(2, 2), at(0, 1), 1, 3, []string{"中_ ", "224"}},
		{"behind runes 0", "\x00\x00\u0300", of(3, 0), nil, 1, 3, []string{"?? ", "511"}},
		{"two: one in a field, the other selected", "e\u0301\u0302f", of(1, 0, 3, 2), at(1, 2), 1, 3, []string{"ef ", "570"}},
	})
}

// Of each place at which a rune of width 0 may be, first what stands behind it
// is not selected, then it is.
func TestRunesOfWidthZeroSelected(t *testing.T) {
	holdSamples(t, []sample{
		{"at first", "\u0301ab", of(1, 0), nil, 1, 3, []string{"ab ", "500"}},
		{"at first, and the rune behind it", "\u0301ab", of(0, 2), nil, 1, 3, []string{"ab ", "140"}},
		{"behind a rune", "a\u0301b", of(2, 0), nil, 1, 3, []string{"ab ", "510"}},
		{"behind a rune, and the one behind it", "a\u0301b", of(3, 0), nil, 1, 3, []string{"ab ", "510"}},
		{"behind a wide rune", "中\u0301b", of(2, 0), nil, 1, 4, []string{"中_b ", "5510"}},
		{"behind a wide rune, and the rune behind it", "中\u0301b", of(3, 0), nil, 1, 4, []string{"中_b ", "5510"}},
		{"behind a full row", "ab\u0301c", of(3, 1), nil, 2, 2, []string{"ab", "05", "c ", "10"}},
		{"behind a full row, and the rune behind it", "ab\u0301c", of(4, 1), nil, 2, 2, []string{"ab", "05", "c ", "10"}},
		{"behind a full row, which is above", "ab\u0301c", of(2, 4), nil, 1, 2, []string{"c ", "14"}},
		{"behind a rune 10", "a\n\u0301b", of(3, 0), nil, 2, 2, []string{"a ", "51", "b ", "10"}},
		{"behind a rune 10, and the rune behind it", "a\n\u0301b", of(4, 0), nil, 2, 2, []string{"a ", "51", "b ", "10"}},
		{"behind a rune 10 that is not selected", "a\n\u0301b", of(0, 0, 2, 4), nil, 2, 2, []string{"a ", "40", "b ", "14"}},
		{"several", "a\u0301\u0302\u0303b", of(4, 0), nil, 1, 3, []string{"ab ", "510"}},
		{"several, and the rune behind them", "a\u0301\u0302\u0303b", of(5, 0), nil, 1, 3, []string{"ab ", "510"}},
		{"the first of several", "a\u0301\u0302\u0303b", of(2, 0), nil, 1, 3, []string{"ab ", "510"}},
		{"the last of several, with the rune behind them", "a\u0301\u0302\u0303b", of(3, 5), nil, 1, 3, []string{"ab ", "014"}},
		{"ahead of a wide rune", "a\u0301中", of(2, 0), nil, 1, 4, []string{"a中_ ", "5110"}},
		{"ahead of a wide rune, and that", "a\u0301中", of(3, 0), nil, 1, 4, []string{"a中_ ", "5110"}},
		{"ahead of a wide rune without room", "a\u0301中", of(2, 0), nil, 2, 2, []string{"a ", "51", "中_", "00"}},
		{"ahead of a wide rune without room, and that", "a\u0301中", of(3, 0), nil, 2, 2, []string{"a ", "51", "中_", "11"}},
		{"ahead of a wide rune without room, that alone", "a\u0301中", of(0, 0, 2, 3), nil, 3, 2, []string{"a ", "40", "中_", "11", "  ", "40"}},
		{"ahead of a wide rune in the only column", "a\u0301中", of(2, 0), nil, 2, 1, []string{"a", "5", "?", "1"}},
		{"ahead of a rune 10", "a\u0301\nb", of(2, 0), nil, 2, 3, []string{"a  ", "510", "b  ", "000"}},
		{"ahead of a rune 10, and that", "a\u0301\nb", of(3, 0), nil, 2, 3, []string{"a  ", "510", "b  ", "000"}},
		{"ahead of the end", "a\u0301", of(0, 0, 1, 2), nil, 1, 3, []string{"a  ", "450"}},
		{"ahead of the end behind a full row", "ab\u0301", of(3, 1), nil, 2, 2, []string{"ab", "05", "  ", "10"}},
		{"alone", "\u0301", of(1, 0), nil, 1, 2, []string{"  ", "50"}},
		{"alone, one cell", "\u0301", of(0, 1), nil, 1, 1, []string{" ", "5"}},
		{"not selected, what is behind it is", "a\u0301b", of(0, 0, 2, 3), nil, 1, 3, []string{"ab ", "414"}},
		{"not selected, what is ahead of it is", "a\u0301b", of(1, 0), nil, 1, 3, []string{"ab ", "500"}},
	})
}

func TestRunesOfWidthZeroInFields(t *testing.T) {
	first := of(0, 0)
	holdSamples(t, []sample{
		{"at first", "\u0301ab", of(3, 3), at(0, 1), 1, 3, []string{"ab ", "204"}},
		{"at first, and the rune behind it", "\u0301ab", of(3, 3), at(0, 2), 1, 3, []string{"ab ", "204"}},
		{"at first, the rune behind it selected", "\u0301ab", of(1, 3), at(0, 1), 1, 3, []string{"ab ", "314"}},
		{"behind a rune", "a\u0301b", first, at(1, 2), 1, 3, []string{"ab ", "420"}},
		{"behind a rune, and in its field", "a\u0301b", first, at(0, 2), 1, 3, []string{"ab ", "620"}},
		{"behind a rune, the one behind it selected", "a\u0301b", of(2, 3), at(1, 2), 1, 3, []string{"ab ", "034"}},
		{"behind a full row", "ab\u0301c", first, at(2, 3), 2, 2, []string{"ab", "40", "c ", "20"}},
		{"behind a full row, the rune behind it selected", "ab\u0301c", of(3, 4), at(2, 3), 2, 2, []string{"ab", "00", "c ", "34"}},
		{"behind a full row, which is above", "ab\u0301c", of(4, 4), at(2, 3), 1, 2, []string{"c ", "24"}},
		{"behind a rune 10", "a\n\u0301b", first, at(2, 3), 2, 2, []string{"a ", "40", "b ", "20"}},
		{"behind a rune 10, the rune behind it selected", "a\n\u0301b", of(3, 4), at(2, 3), 2, 2, []string{"a ", "00", "b ", "34"}},
		{"several", "a\u0301\u0302\u0303b", first, at(1, 4), 1, 3, []string{"ab ", "420"}},
		{"the first of several", "a\u0301\u0302\u0303b", first, at(1, 2), 1, 3, []string{"ab ", "420"}},
		{"the second of several", "a\u0301\u0302\u0303b", first, at(2, 3), 1, 3, []string{"ab ", "420"}},
		{"the last of several", "a\u0301\u0302\u0303b", first, at(3, 4), 1, 3, []string{"ab ", "420"}},
		{"several, the rune behind them selected", "a\u0301\u0302\u0303b", of(4, 5), at(1, 3), 1, 3, []string{"ab ", "034"}},
		{"ahead of a wide rune", "a\u0301中", first, at(1, 2), 1, 4, []string{"a中_ ", "4220"}},
		{"ahead of a wide rune that is selected", "a\u0301中", of(2, 3), at(1, 2), 1, 4, []string{"a中_ ", "0334"}},
		{"ahead of a wide rune without room", "a\u0301中", first, at(1, 2), 2, 2, []string{"a ", "42", "中_", "00"}},
		{"ahead of a wide rune without room that is selected", "a\u0301中", of(2, 3), at(1, 2), 2, 2, []string{"中_", "11", "  ", "40"}},
		{"ahead of a wide rune without room that is selected, all rows", "a\u0301中", of(2, 3), at(1, 2), 3, 2, []string{"a ", "02", "中_", "11", "  ", "40"}},
		{"ahead of a wide rune in the only column", "a\u0301中", first, at(1, 2), 2, 1, []string{"a", "4", "?", "2"}},
		{"ahead of a rune 10", "a\u0301\nb", first, at(1, 2), 2, 3, []string{"a  ", "420", "b  ", "000"}},
		{"ahead of a rune 10 that is selected", "a\u0301\nb", of(2, 4), at(1, 2), 2, 3, []string{"a  ", "030", "b  ", "140"}},
		{"ahead of the end", "a\u0301", first, at(1, 2), 1, 3, []string{"a  ", "420"}},
		{"ahead of the end, with the caret", "a\u0301", of(2, 2), at(1, 2), 1, 3, []string{"a  ", "060"}},
		{"ahead of the end behind a full row", "ab\u0301", first, at(2, 3), 2, 2, []string{"ab", "40", "  ", "20"}},
		{"alone", "\u0301", first, at(0, 1), 1, 2, []string{"  ", "60"}},
		{"in none, what is behind it is", "a\u0301b", first, at(2, 3), 1, 3, []string{"ab ", "420"}},
		{"in none, what is ahead of it is", "a\u0301b", first, at(0, 1), 1, 3, []string{"ab ", "600"}},
		{"in a field of nothing", "a\u0301b", first, at(1, 1), 1, 3, []string{"ab ", "400"}},
		{"behind a field of nothing", "a\u0301b", first, at(2, 2), 1, 3, []string{"ab ", "400"}},
	})
}

func TestRunesOfWidthZeroInBoth(t *testing.T) {
	holdSamples(t, []sample{
		{"at first", "\u0301ab", of(1, 0), at(0, 1), 1, 3, []string{"ab ", "700"}},
		{"at first, and the rune behind it", "\u0301ab", of(0, 2), at(0, 1), 1, 3, []string{"ab ", "340"}},
		{"behind a rune", "a\u0301b", of(2, 0), at(1, 2), 1, 3, []string{"ab ", "530"}},
		{"behind a rune, and the one behind it", "a\u0301b", of(3, 0), at(1, 3), 1, 3, []string{"ab ", "530"}},
		{"behind a full row", "ab\u0301c", of(3, 1), at(2, 3), 2, 2, []string{"ab", "05", "c ", "30"}},
		{"behind a full row, and the rune behind it", "ab\u0301c", of(4, 1), at(2, 3), 2, 2, []string{"ab", "05", "c ", "30"}},
		{"behind a rune 10", "a\n\u0301b", of(3, 0), at(2, 3), 2, 2, []string{"a ", "51", "b ", "30"}},
		{"behind a rune 10, and the rune behind it", "a\n\u0301b", of(4, 0), at(2, 3), 2, 2, []string{"a ", "51", "b ", "30"}},
		{"several", "a\u0301\u0302\u0303b", of(4, 0), at(1, 4), 1, 3, []string{"ab ", "530"}},
		{"one selected, another one in a field", "a\u0301\u0302\u0303b", of(2, 0), at(3, 4), 1, 3, []string{"ab ", "530"}},
		{"one in a field, another one selected", "a\u0301\u0302\u0303b", of(3, 5), at(1, 2), 1, 3, []string{"ab ", "034"}},
		{"ahead of a wide rune", "a\u0301中", of(2, 0), at(1, 2), 1, 4, []string{"a中_ ", "5330"}},
		{"ahead of a wide rune, and that", "a\u0301中", of(3, 0), at(1, 2), 1, 4, []string{"a中_ ", "5330"}},
		{"ahead of a wide rune without room", "a\u0301中", of(2, 0), at(1, 2), 2, 2, []string{"a ", "53", "中_", "00"}},
		{"ahead of a wide rune without room, and that", "a\u0301中", of(3, 0), at(1, 2), 2, 2, []string{"a ", "53", "中_", "11"}},
		{"ahead of a rune 10", "a\u0301\nb", of(2, 0), at(1, 2), 2, 3, []string{"a  ", "530", "b  ", "000"}},
		{"ahead of a rune 10, and that", "a\u0301\nb", of(3, 0), at(1, 2), 2, 3, []string{"a  ", "530", "b  ", "000"}},
		{"ahead of the end", "a\u0301", of(2, 0), at(1, 2), 1, 3, []string{"a  ", "530"}},
		{"ahead of the end, with the caret", "a\u0301", of(1, 2), at(1, 2), 1, 3, []string{"a  ", "070"}},
		{"alone", "\u0301", of(1, 0), at(0, 1), 1, 2, []string{"  ", "70"}},
	})
}

// setting is what is around runes of width 0, and what is shown: in cells there
// is z where their style is, n where that of the place behind them is, b where
// both are, and 4 where the primary caret is.
type setting struct {
	name, ahead, behind string
	caret               int // its place; -1 is the end
	rows, columns       int
	runes, cells        []string
}

func settings() []setting {
	return []setting{
		{"at first", "", "ab", -1, 1, 3, []string{"ab "}, []string{"b04"}},
		{"at first, a wide rune", "", "中b", -1, 1, 4, []string{"中_b "}, []string{"bb04"}},
		{"at first, a rune 10", "", "\na", -1, 2, 2, []string{"  ", "a "}, []string{"b0", "04"}},
		{"a rune", "a", "b", 0, 1, 3, []string{"ab "}, []string{"4b0"}},
		{"a rune behind a wide one", "中", "b", 0, 1, 4, []string{"中_b "}, []string{"44b0"}},
		{"a rune behind a full row", "ab", "c", 1, 2, 2, []string{"ab", "c "}, []string{"04", "b0"}},
		{"a wide rune behind a full row", "ab", "中", 1, 2, 2, []string{"ab", "中_"}, []string{"04", "bb"}},
		{"a rune 10 behind a full row", "ab", "\nc", 1, 3, 2, []string{"ab", "  ", "c "}, []string{"04", "b0", "00"}},
		{"the end behind a full row", "ab", "", 1, 2, 2, []string{"ab", "  "}, []string{"04", "b0"}},
		{"behind a full row, which is not shown", "ab", "cd", -1, 2, 2, []string{"cd", "  "}, []string{"b0", "40"}},
		{"a rune behind a rune 10", "a\n", "b", 0, 2, 2, []string{"a ", "b "}, []string{"40", "b0"}},
		{"a wide rune behind a rune 10", "a\n", "中", 0, 2, 3, []string{"a  ", "中_ "}, []string{"400", "bb0"}},
		{"a rune 10 behind another one", "a\n", "\n", 1, 3, 2, []string{"a ", "  ", "  "}, []string{"04", "b0", "00"}},
		{"the end behind a rune 10", "a\n", "", 0, 2, 2, []string{"a ", "  "}, []string{"40", "b0"}},
		{"a wide rune", "a", "中", 0, 1, 4, []string{"a中_ "}, []string{"4bb0"}},
		{"a wide rune that fills a row", "a", "中", 0, 1, 3, []string{"a中_"}, []string{"4bb"}},
		{"a wide rune without room", "a", "中", 0, 2, 2, []string{"a ", "中_"}, []string{"4z", "nn"}},
		{"a wide rune without room, the last row", "a", "中", 0, 1, 2, []string{"a "}, []string{"4z"}},
		{"a wide rune without room in the second row", "a\nc", "中", 2, 3, 2, []string{"a ", "c ", "中_"}, []string{"00", "4z", "nn"}},
		{"a wide rune in the only column", "a", "中", 0, 2, 1, []string{"a", "?"}, []string{"4", "b"}},
		{"a rune in the last column", "a", "b", 0, 2, 2, []string{"ab", "  "}, []string{"4b", "00"}},
		{"a rune below 32", "a", "\t", 0, 1, 3, []string{"a? "}, []string{"4b0"}},
		{"a rune 10", "a", "\nb", 0, 2, 3, []string{"a  ", "b  "}, []string{"4b0", "000"}},
		{"a rune 10 in the last column", "a", "\nb", 0, 2, 2, []string{"a ", "b "}, []string{"4b", "00"}},
		{"the end", "a", "", 0, 1, 3, []string{"a  "}, []string{"4b0"}},
		{"the end in the last column", "a", "", 0, 1, 2, []string{"a "}, []string{"4b"}},
	}
}

// in returns selections and spans by which a place has a style. The caret of a
// selection is at the place (back), or behind it.
func in(place, style int, back bool) ([]api.Sel, []api.Span) {
	var l []api.Sel
	switch {
	case style&1 != 0 && back:
		l = of(place+1, place)
	case style&1 != 0:
		l = of(place, place+1)
	}
	if style&2 != 0 {
		return l, at(place, place+1)
	}
	return l, nil
}

// hold holds that so many runes of width 0 in a setting, of which that at some
// index has a style, and the place behind them another one, are shown rightly.
func (x setting) hold(t *testing.T, n, index, style, next int, back bool) {
	t.Helper()
	first := len([]rune(x.ahead))
	v := View{Text: []rune(x.ahead + strings.Repeat("\u0301", n) + x.behind)}
	primary := x.caret
	if primary < 0 {
		primary = len(v.Text)
	}
	a, b := in(first+index, style, back)
	c, d := in(first+n, next, back)
	v.Sels, v.Spans = slices.Concat(of(primary, primary), a, c), slices.Concat(b, d)
	// The selections have carets: with back at what is selected, otherwise behind it.
	if style&1 != 0 && (back || index+1 < n) {
		style |= 4
	} else if style&1 != 0 {
		next |= 4
	}
	if next&1 != 0 && back {
		next |= 4
	}
	styles := map[rune]int{'0': 0, '4': 4, 'z': style, 'n': next, 'b': style | next}
	var want []string
	for i, row := range x.cells {
		var w strings.Builder
		for _, c := range row {
			w.WriteRune('0' + rune(styles[c]))
		}
		want = append(want, x.runes[i], w.String())
	}
	holdSamples(t, []sample{{x.name, string(v.Text), v.Sels, v.Spans, x.rows, x.columns, want}})
}

// Each of up to 3 runes of width 0 in each setting, with each style, and with
// each one that the place behind them has.
func TestRunesOfWidthZeroInEachSetting(t *testing.T) {
	for _, x := range settings() {
		for n := 1; n <= 3; n++ {
			for index := range n {
				for style := range 4 {
					x.hold(t, n, index, style, 0, true)
					x.hold(t, n, index, style, 0, false)
					for next := 1; next < 4 && x.behind != ""; next++ {
						x.hold(t, n, index, style, next, true)
					}
				}
			}
		}
	}
}

// Each rune of width 0 is like the others.
func TestStylesOfAllRunesOfWidthZero(t *testing.T) {
	for r := rune(0); r < 0x110000; r++ {
		if width.Of(r) != 0 {
			continue
		}
		g, e := Show(View{Text: []rune{'a', r, 'b', r}, Sels: of(2, 0), Spans: at(3, 4)}, 1, 3)
		if want := []string{"ab ", "512"}; e != api.OK || !slices.Equal(drawn(g), want) {
			t.Errorf("rune %x: %d, %q, want %q", r, e, drawn(g), want)
		}
	}
}

// Where there are no runes of width 0, each place has a cell of its own, and
// that has the style of this place alone.
func TestEachPlaceHasItsCellWithoutRunesOfWidthZero(t *testing.T) {
	l := lot(68)
	for range 3000 {
		columns := 1 + l.draw(7)
		v := l.view(l.draw(1 + l.draw(50)))
		v.Text = slices.DeleteFunc(v.Text, func(r rune) bool { return width.Of(r) == 0 })
		v.Sels, v.Spans = l.sels(len(v.Text)), l.spans(len(v.Text))
		v.Sels = append([]api.Sel{{}}, v.Sels...)
		places := Places(v.Text, columns)
		g, e := Show(v, 60, columns)
		if e != api.OK {
			t.Fatalf("%v: %d", v, e)
		}
		seen := map[api.Span]int{}
		for i, p := range places {
			if seen[p]++; seen[p] > 1 {
				t.Fatalf("%v: several places at %v", v, p)
			}
			if p.From < 60 && g.Cells[p.From*columns+p.To].Style != wordsStyle(v, places, i) {
				t.Fatalf("%v: place %d: %v", v, i, g)
			}
		}
	}
}
