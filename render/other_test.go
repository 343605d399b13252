package render

import (
	"math"
	"slices"
	"strings"
	"testing"

	"stylus/api"
)

// P22.2: ErrArg

// turnedDown holds that a view is ErrArg, and that nothing is beside it.
func turnedDown(t *testing.T, what string, v View, rows, columns int) {
	t.Helper()
	g, e := Show(v, rows, columns)
	if e != api.ErrArg || g.Rows != 0 || g.Columns != 0 || len(g.Cells) != 0 {
		t.Errorf("%s: Show(%v, %d, %d): %v, %d", what, v, rows, columns, g, e)
	}
}

func TestWrongRowsAndColumns(t *testing.T) {
	for _, v := range []View{
		{Sels: of(0, 0)},
		{Text: []rune("a中\n"), Sels: of(3, 1), Spans: []api.Span{{From: 1, To: 2}}},
		{Text: []rune("abc")},
	} {
		for _, wrong := range wrongSides() {
			for right := 1; right <= 60; right++ {
				turnedDown(t, "rows", v, wrong, right)
				turnedDown(t, "columns", v, right, wrong)
			}
			for _, other := range []int{0, -1, 61, math.MinInt, math.MaxInt, wrong} {
				turnedDown(t, "rows and columns", v, wrong, other)
				turnedDown(t, "rows and columns", v, other, wrong)
			}
		}
	}
}

func TestRightRowsAndColumns(t *testing.T) {
	for rows := 1; rows <= 60; rows++ {
		for columns := 1; columns <= 60; columns++ {
			g, e := Show(View{Sels: of(0, 0)}, rows, columns)
			if e != api.OK || g.Rows != rows || g.Columns != columns || len(g.Cells) != rows*columns {
				t.Fatalf("Show(%d, %d): %v, %d", rows, columns, g, e)
			}
			want := slices.Repeat([]Cell{{Rune: 32}}, rows*columns)
			want[0].Style = 4
			if !slices.Equal(g.Cells, want) {
				t.Fatalf("Show(%d, %d): %v", rows, columns, g)
			}
		}
	}
}

func TestNoSelection(t *testing.T) {
	for _, text := range []string{"", "a", "a\nb"} {
		for _, none := range [][]api.Sel{nil, {}, make([]api.Sel, 0, 3)} {
			for _, spans := range [][]api.Span{nil, {{}}, {{From: 0, To: 9}}} {
				turnedDown(t, "no selection", View{Text: []rune(text), Sels: none, Spans: spans}, 1, 1)
				turnedDown(t, "no selection", View{Text: []rune(text), Sels: none, Spans: spans}, 60, 60)
				turnedDown(t, "no selection, no rows", View{Text: []rune(text), Sels: none, Spans: spans}, 0, 4)
			}
		}
	}
	turnedDown(t, "nothing", View{}, 1, 1)
}

// outside returns numbers that are no places of a text of n runes.
func outside(n int) []int {
	l := []int{
		-1, -2, -n, -n - 1, n + 1, n + 2, 2*n + 1, 2001, 65536, math.MinInt, math.MinInt + 1, math.MinInt + n, math.MaxInt, math.MaxInt - 1, math.MaxInt - n,
		math.MinInt32, math.MinInt32 + n, math.MaxInt32, wide() + n + 1, wide()*2 - 1,
	}
	if wide() != 0 {
		l = append(l, wide(), wide()+n, -wide(), -wide()+n)
	}
	return slices.DeleteFunc(l, func(at int) bool { return at >= 0 && at <= n })
}

func TestPlacesOfSelections(t *testing.T) {
	for _, text := range [][]rune{nil, []rune("a"), []rune("a中\u0301\nb")} {
		n := len(text)
		for at := range n + 1 {
			for _, wrong := range outside(n) {
				for _, s := range of(wrong, at, at, wrong, wrong, wrong, wrong, -1, n+1, wrong) {
					turnedDown(t, "alone", View{Text: text, Sels: []api.Sel{s}}, 3, 3)
					turnedDown(t, "first", View{Text: text, Sels: []api.Sel{s, {}}}, 3, 3)
					turnedDown(t, "last", View{Text: text, Sels: []api.Sel{{}, {Anchor: n, Head: n}, s}}, 3, 3)
					turnedDown(t, "in the middle", View{Text: text, Sels: []api.Sel{{}, s, {Anchor: n}}, Spans: []api.Span{{}}}, 3, 3)
				}
			}
			for other := range n + 1 {
				if _, e := Show(View{Text: text, Sels: []api.Sel{{}, {Anchor: at, Head: other}}}, 3, 3); e != api.OK {
					t.Errorf("%d to %d of %d: %d", at, other, n, e)
				}
			}
		}
	}
}

func TestPlacesOfSpans(t *testing.T) {
	for _, text := range [][]rune{nil, []rune("a"), []rune("a中\u0301\nb")} {
		n := len(text)
		spans := func(l ...api.Span) View { return View{Text: text, Sels: of(0, n), Spans: l} }
		for at := range n + 1 {
			for _, wrong := range outside(n) {
				for _, s := range []api.Span{{From: wrong, To: at}, {From: at, To: wrong}, {From: wrong, To: wrong}, {From: -1, To: wrong}, {From: wrong, To: n + 1}} {
					turnedDown(t, "alone", spans(s), 3, 3)
					turnedDown(t, "first", spans(s, api.Span{}), 3, 3)
					turnedDown(t, "last", spans(api.Span{}, api.Span{To: n}, s), 3, 3)
					turnedDown(t, "in the middle", spans(api.Span{}, s, api.Span{From: n, To: n}), 3, 3)
				}
			}
			for to := range n + 1 {
				s := api.Span{From: at, To: to}
				if to < at {
					turnedDown(t, "From behind To", spans(s), 3, 3)
					turnedDown(t, "From behind To, first", spans(s, api.Span{}), 3, 3)
					turnedDown(t, "From behind To, last", spans(api.Span{}, s), 3, 3)
				} else if _, e := Show(spans(api.Span{}, s), 3, 3); e != api.OK {
					t.Errorf("%v of %d: %d", s, n, e)
				}
			}
		}
	}
}

// A place that is too far is one of the text if that is longer.
func TestPlacesOfLongerTexts(t *testing.T) {
	for n := range 70 {
		text := []rune(strings.Repeat("a", n))
		for at := range 75 {
			v := View{Text: text, Sels: of(0, 0, at, 0)}
			u := View{Text: text, Sels: of(0, 0, 0, at)}
			w := View{Text: text, Sels: of(0, 0), Spans: []api.Span{{From: 0, To: at}}}
			x := View{Text: text, Sels: of(0, 0), Spans: []api.Span{{From: at, To: at}}}
			for _, one := range []View{v, u, w, x} {
				holdShow(t, one, 3, 7)
				if _, e := Show(one, 3, 7); (e == api.ErrArg) != (at > n) {
					t.Errorf("place %d of %d: %d", at, n, e)
				}
			}
		}
	}
}

func TestSeveralThingsWrong(t *testing.T) {
	text := []rune("abc")
	for _, l := range [][]api.Sel{nil, of(4, 0), of(0, -1, 2, 2)} {
		for _, spans := range [][]api.Span{nil, {{From: 2, To: 1}}, {{From: -1, To: 2}}, {{From: 0, To: 4}, {From: 3, To: 0}}} {
			for _, rows := range []int{-1, 0, 1, 60, 61} {
				for _, columns := range []int{math.MinInt, 0, 1, 60, math.MaxInt} {
					turnedDown(t, "several", View{Text: text, Sels: l, Spans: spans}, rows, columns)
				}
			}
		}
	}
	for _, spans := range [][]api.Span{{{From: 2, To: 1}}, {{From: 0, To: 4}, {From: 3, To: 0}}} {
		for _, side := range [][2]int{{1, 1}, {60, 60}, {0, 1}, {1, 61}, {-1, 61}} {
			turnedDown(t, "spans", View{Text: text, Sels: of(0, 0), Spans: spans}, side[0], side[1])
		}
	}
}

// R1

func TestAnyNumbers(t *testing.T) {
	numbers := []int{math.MinInt, math.MinInt + 1, math.MinInt32, -61, -60, -1, 0, 1, 2, 3, 4, 59, 60, 61, 2000, math.MaxInt32, wide(), wide() + 1, math.MaxInt - 1, math.MaxInt}
	for _, text := range [][]rune{nil, {10}, []rune("abc"), {math.MinInt32, 0x110000, math.MaxInt32}} {
		for _, a := range numbers {
			holdPlaces(t, text, a)
			for _, b := range numbers {
				holdShow(t, View{Text: text, Sels: of(0, 0)}, a, b)
				holdShow(t, View{Text: text, Sels: of(a, b)}, 2, 2)
				holdShow(t, View{Text: text, Sels: of(0, 0), Spans: []api.Span{{From: a, To: b}}}, 2, 2)
			}
		}
	}
	d := lot(14)
	pick := func() int {
		if d.draw(3) == 0 {
			return numbers[d.draw(len(numbers))]
		}
		return d.draw(5)
	}
	for range 30000 {
		v := View{Text: d.text(d.draw(5))}
		for range d.draw(3) {
			v.Sels = append(v.Sels, api.Sel{Anchor: pick(), Head: pick()})
		}
		for range d.draw(3) {
			v.Spans = append(v.Spans, api.Span{From: pick(), To: pick()})
		}
		holdShow(t, v, pick(), pick())
	}
}

// There may be more runes than api.MaxText, more selections than api.MaxSels,
// and more spans than api.MaxMarks.
func TestLongLists(t *testing.T) {
	const n = 1 << 20
	v := View{Text: slices.Repeat([]rune("ab中\n"), n/4)}
	for i := range n / 4 {
		v.Sels = append(v.Sels, api.Sel{Anchor: n, Head: n - 4*i})
		v.Spans = append(v.Spans, api.Span{From: 2 * i, To: n - 2*i})
	}
	g, e := Show(v, 3, 8)
	want := []string{"ab中_    ", "73333000", "ab中_    ", "73333000", "        ", "40000000"}
	if e != api.OK || !slices.Equal(drawn(g), want) {
		t.Errorf("%d: %q, want %q", e, drawn(g), want)
	}
}

// R3

// roomy returns a list with room behind its end, and all of its memory.
func roomy[T any](l []T, behind ...T) (list, all []T) {
	all = append(slices.Clone(l), behind...)
	return all[:len(l)], all
}

// views returns views of all kinds, some of which are turned down.
func views() []View {
	l := lot(33)
	all := []View{
		{},
		{Sels: of(0, 0)},
		{Text: []rune("abc"), Sels: of(3, 1, 2, 2, 0, 0), Spans: []api.Span{{From: 2, To: 3}, {From: 0, To: 1}}},
		{Text: []rune("a中\u0301\nb"), Sels: of(5, 0), Spans: []api.Span{{From: 1, To: 4}}},
		{Text: []rune("abc"), Sels: of(0, 4)},
		{Text: []rune("abc"), Sels: of(0, 0), Spans: []api.Span{{From: 3, To: 2}}},
		{Text: []rune("abc")},
	}
	for n := range 40 {
		all = append(all, l.view(n))
	}
	return all
}

var sides = [][2]int{{1, 1}, {2, 3}, {3, 2}, {8, 5}, {60, 60}, {0, 3}, {3, 61}}

func TestArgumentsStay(t *testing.T) {
	for _, given := range views() {
		text, allText := roomy(given.Text, 'x', 10, '中')
		l, allSels := roomy(given.Sels, of(1, 2, 0, 0)...)
		spans, allSpans := roomy(given.Spans, api.Span{From: 0, To: 1}, api.Span{From: 0, To: 0})
		beforeText, beforeSels, beforeSpans := slices.Clone(allText), slices.Clone(allSels), slices.Clone(allSpans)
		for _, side := range sides {
			Places(text, side[1])
			Show(View{Text: text, Sels: l, Spans: spans}, side[0], side[1])
		}
		if !slices.Equal(allText, beforeText) || !slices.Equal(allSels, beforeSels) || !slices.Equal(allSpans, beforeSpans) {
			t.Errorf("%v: became %v, %v, %v", given, allText, allSels, allSpans)
		}
	}
}

// What stands behind the end of a list is not looked at.
func TestMemoryBehindTheEnd(t *testing.T) {
	for _, given := range views() {
		text, _ := roomy(given.Text, 'x', 10, '中')
		l, _ := roomy(given.Sels, of(0, 0, -5, 99)...)
		spans, _ := roomy(given.Spans, api.Span{From: 0, To: len(text)}, api.Span{From: 9, To: -9})
		for _, side := range sides {
			holdPlaces(t, text, side[1])
			holdShow(t, View{Text: text, Sels: l, Spans: spans}, side[0], side[1])
		}
	}
}

func TestResultsAreNewMemory(t *testing.T) {
	for _, v := range views() {
		for _, side := range sides {
			one, two := Places(v.Text, side[1]), Places(v.Text, side[1])
			a, _ := Show(v, side[0], side[1])
			b, _ := Show(v, side[0], side[1])
			one, a.Cells = one[:cap(one)], a.Cells[:cap(a.Cells)]
			for i := range one {
				one[i] = api.Span{From: -77, To: -78}
			}
			for i := range a.Cells {
				a.Cells[i] = Cell{Rune: -77, Style: -78}
			}
			want, _ := wordsShow(v, side[0], side[1])
			if !slices.Equal(two, wordsPlaces(v.Text, side[1])) || !same(b, want) {
				t.Errorf("%v: a result shares memory", v)
			}
			holdPlaces(t, v.Text, side[1])
			holdShow(t, v, side[0], side[1])
		}
	}
}

func TestResultsDoNotChangeWithArguments(t *testing.T) {
	for _, given := range views() {
		for _, side := range sides {
			v := View{Text: slices.Clone(given.Text), Sels: slices.Clone(given.Sels), Spans: slices.Clone(given.Spans)}
			l := Places(v.Text, side[1])
			g, _ := Show(v, side[0], side[1])
			want, _ := wordsShow(given, side[0], side[1])
			for i := range v.Text {
				v.Text[i] = '!'
			}
			for i := range v.Sels {
				v.Sels[i] = api.Sel{Anchor: -77, Head: -78}
			}
			for i := range v.Spans {
				v.Spans[i] = api.Span{From: -77, To: -78}
			}
			if !slices.Equal(l, wordsPlaces(given.Text, side[1])) || !same(g, want) {
				t.Errorf("%v: a result changes with its argument", given)
			}
		}
	}
}

func TestNilAndEmptyAreTheSame(t *testing.T) {
	for _, side := range sides {
		for _, text := range [][]rune{nil, {}, make([]rune, 0, 4)} {
			for _, spans := range [][]api.Span{nil, {}, make([]api.Span, 0, 4)} {
				holdShow(t, View{Text: text, Sels: of(0, 0), Spans: spans}, side[0], side[1])
				for _, none := range [][]api.Sel{nil, {}, make([]api.Sel, 0, 4)} {
					turnedDown(t, "no selection", View{Text: text, Sels: none, Spans: spans}, side[0], side[1])
				}
			}
		}
	}
}

// R4

func TestCallsDoNotDependOnOthers(t *testing.T) {
	type answer struct {
		places []api.Span
		grid   Grid
		e      api.Errno
	}
	ask := func(v View, side [2]int) answer {
		a := answer{places: Places(v.Text, side[1])}
		a.grid, a.e = Show(v, side[0], side[1])
		return a
	}
	var first []answer
	for _, v := range views() {
		for _, side := range sides {
			first = append(first, ask(v, side))
		}
	}
	next := len(first)
	for _, v := range slices.Backward(views()) {
		for _, side := range slices.Backward(sides) {
			next--
			if got := ask(v, side); !slices.Equal(got.places, first[next].places) || !same(got.grid, first[next].grid) || got.e != first[next].e {
				t.Errorf("%v, %v: %v, then %v", v, side, first[next], got)
			}
		}
	}
}
