package render

import (
	"math"
	"slices"
	"strings"
	"testing"

	"stylus/api"
	"stylus/width"
)

// Runes of each width, by which the texts below are read more easily.
const (
	none = "\u0301" // width 0
	two  = "中"      // width 2
)

// rowsOf returns places of rows and columns in pairs.
func rowsOf(l ...int) []api.Span {
	var places []api.Span
	for i := 0; i+1 < len(l); i += 2 {
		places = append(places, api.Span{From: l[i], To: l[i+1]})
	}
	return places
}

// holdPlaces holds Places by the chapter's words.
func holdPlaces(t *testing.T, text []rune, columns int) {
	t.Helper()
	if got, want := Places(text, columns), wordsPlaces(text, columns); !slices.Equal(got, want) {
		t.Fatalf("Places(%q, %d): %v, want %v", text, columns, got, want)
	}
}

// P22.1

func TestPlaces(t *testing.T) {
	for _, c := range []struct {
		name, text string
		columns    int
		want       []api.Span
	}{
		{"the chapter's example", "abc", 2, rowsOf(0, 0, 0, 1, 1, 0, 1, 1)},
		{"no runes, one column", "", 1, rowsOf(0, 0)},
		{"no runes, two columns", "", 2, rowsOf(0, 0)},
		{"no runes, all columns", "", 60, rowsOf(0, 0)},
		{"one rune", "a", 4, rowsOf(0, 0, 0, 1)},
		{"one rune, one column: the end has no room", "a", 1, rowsOf(0, 0, 1, 0)},
		{"a space is a rune of width 1", "a b", 4, rowsOf(0, 0, 0, 1, 0, 2, 0, 3)},
		{"one column", "abc", 1, rowsOf(0, 0, 1, 0, 2, 0, 3, 0)},
		{"the end where a row is just full", "ab", 2, rowsOf(0, 0, 0, 1, 1, 0)},
		{"the end where the second row is just full", "abcd", 2, rowsOf(0, 0, 0, 1, 1, 0, 1, 1, 2, 0)},
		{"one column left for the end", "ab", 3, rowsOf(0, 0, 0, 1, 0, 2)},
		{"a rune 10", "a\nb", 4, rowsOf(0, 0, 0, 1, 1, 0, 1, 1)},
		{"a rune 10 at first", "\na", 4, rowsOf(0, 0, 1, 0, 1, 1)},
		{"a rune 10 at last", "a\n", 4, rowsOf(0, 0, 0, 1, 1, 0)},
		{"a rune 10 alone", "\n", 4, rowsOf(0, 0, 1, 0)},
		{"a rune 10 alone, one column", "\n", 1, rowsOf(0, 0, 1, 0)},
		{"several runes 10", "\n\n\n", 4, rowsOf(0, 0, 1, 0, 2, 0, 3, 0)},
		{"several runes 10, one column", "\n\n\n", 1, rowsOf(0, 0, 1, 0, 2, 0, 3, 0)},
		{"several runes 10 between others", "a\n\nb", 4, rowsOf(0, 0, 0, 1, 1, 0, 2, 0, 2, 1)},
		{"a rune 10 in the last column", "a\nb", 2, rowsOf(0, 0, 0, 1, 1, 0, 1, 1)},
		{"a rune 10 where a row is just full", "ab\nc", 2, rowsOf(0, 0, 0, 1, 1, 0, 2, 0, 2, 1)},
		{"the end after a rune 10 where a row is just full", "ab\n", 2, rowsOf(0, 0, 0, 1, 1, 0, 2, 0)},
		{"two runes 10 where a row is just full", "ab\n\nc", 2, rowsOf(0, 0, 0, 1, 1, 0, 2, 0, 3, 0, 3, 1)},
		{"runes 10 between, one column", "a\nb", 1, rowsOf(0, 0, 1, 0, 2, 0, 3, 0)},
		{"a wide rune where a row is full, and a rune 10", two + "\na", 2, rowsOf(0, 0, 1, 0, 2, 0, 2, 1)},
		{"a tab and an escape take a column", "\t\x1bb", 2, rowsOf(0, 0, 0, 1, 1, 0, 1, 1)},
		{"a rune 13 takes a column", "a\rb", 4, rowsOf(0, 0, 0, 1, 0, 2, 0, 3)},
		{"a rune 0 takes a column", "\x00b", 4, rowsOf(0, 0, 0, 1, 0, 2)},
		{"a wide rune", two + "a", 4, rowsOf(0, 0, 0, 2, 0, 3)},
		{"a wide rune where two columns are left", "a" + two + "b", 3, rowsOf(0, 0, 0, 1, 1, 0, 1, 1)},
		{"a wide rune where one column is left", "a" + two + "b", 2, rowsOf(0, 0, 1, 0, 2, 0, 2, 1)},
		{"a wide rune where one of three columns is left", "ab" + two + "c", 3, rowsOf(0, 0, 0, 1, 1, 0, 1, 2, 2, 0)},
		{"a wide rune where no column is left", "ab" + two + "c", 2, rowsOf(0, 0, 0, 1, 1, 0, 2, 0, 2, 1)},
		{"the end where one column is left behind a wide rune", two, 3, rowsOf(0, 0, 0, 2)},
		{"the end where none is left behind a wide rune", two, 2, rowsOf(0, 0, 1, 0)},
		{"wide runes, three columns", two + two + two, 3, rowsOf(0, 0, 1, 0, 2, 0, 2, 2)},
		{"wide runes, four columns", two + two + two, 4, rowsOf(0, 0, 0, 2, 1, 0, 1, 2)},
		{"a wide rune in the only column", two, 1, rowsOf(0, 0, 1, 0)},
		{"wide runes in the only column", "a" + two + two + "b", 1, rowsOf(0, 0, 1, 0, 2, 0, 3, 0, 4, 0)},
		{"a wide rune and a rune 10 in the only column", two + "\n" + two, 1, rowsOf(0, 0, 1, 0, 2, 0, 3, 0)},
		{"a rune of width 0", "e" + none + "f", 3, rowsOf(0, 0, 0, 1, 0, 1, 0, 2)},
		{"one of width 0 at first", none + "e", 3, rowsOf(0, 0, 0, 0, 0, 1)},
		{"one of width 0 alone", none, 3, rowsOf(0, 0, 0, 0)},
		{"one of width 0 alone, one column", none, 1, rowsOf(0, 0, 0, 0)},
		{"one of width 0 at last", "e" + none, 3, rowsOf(0, 0, 0, 1, 0, 1)},
		{"one of width 0 behind a full row", "ab" + none + "c", 2, rowsOf(0, 0, 0, 1, 1, 0, 1, 0, 1, 1)},
		{"one of width 0 behind a full row, at last", "ab" + none, 2, rowsOf(0, 0, 0, 1, 1, 0, 1, 0)},
		{"one of width 0 behind a full row, then a rune 10", "ab" + none + "\nc", 2, rowsOf(0, 0, 0, 1, 1, 0, 1, 0, 2, 0, 2, 1)},
		{"one of width 0 behind a full row, then a wide rune", "ab" + none + two, 2, rowsOf(0, 0, 0, 1, 1, 0, 1, 0, 2, 0)},
		{"one of width 0 behind a rune 10", "a\n" + none + "b", 4, rowsOf(0, 0, 0, 1, 1, 0, 1, 0, 1, 1)},
		{"one of width 0 ahead of a rune 10", "a" + none + "\nb", 4, rowsOf(0, 0, 0, 1, 0, 1, 1, 0, 1, 1)},
		{"one of width 0 behind a rune 10 where a row is full", "ab\n" + none + "b", 2, rowsOf(0, 0, 0, 1, 1, 0, 2, 0, 2, 0, 2, 1)},
		{"several of width 0", "a" + none + none + none + "b", 3, rowsOf(0, 0, 0, 1, 0, 1, 0, 1, 0, 1, 0, 2)},
		{"several of width 0 behind a full row", "ab" + none + none + "c", 2, rowsOf(0, 0, 0, 1, 1, 0, 1, 0, 1, 0, 1, 1)},
		{"one of width 0 behind a wide rune", two + none + "a", 4, rowsOf(0, 0, 0, 2, 0, 2, 0, 3)},
		{"one of width 0 behind a wide rune that fills a row", two + none + "a", 2, rowsOf(0, 0, 1, 0, 1, 0, 1, 1)},
		{"one of width 0 ahead of a wide rune with room", "a" + none + two, 4, rowsOf(0, 0, 0, 1, 0, 1, 0, 3)},
		{"one of width 0 ahead of a wide rune without room", "a" + none + two, 2, rowsOf(0, 0, 0, 1, 1, 0, 2, 0)},
		{"one of width 0, one column", "a" + none + "b", 1, rowsOf(0, 0, 1, 0, 1, 0, 2, 0)},
		{"other runes of width 0", "a\u200b\ufe0f\u036fb", 3, rowsOf(0, 0, 0, 1, 0, 1, 0, 1, 0, 1, 0, 2)},
	} {
		if got := Places([]rune(c.text), c.columns); !slices.Equal(got, c.want) {
			t.Errorf("%s: Places(%q, %d): %v, want %v", c.name, c.text, c.columns, got, c.want)
		}
		if got := wordsPlaces([]rune(c.text), c.columns); !slices.Equal(got, c.want) {
			t.Errorf("%s: by the words: %v, want %v", c.name, got, c.want)
		}
	}
}

func TestPlacesOfANilText(t *testing.T) {
	for columns := 1; columns <= 60; columns++ {
		for _, text := range [][]rune{nil, {}, make([]rune, 0, 9)} {
			if got := Places(text, columns); !slices.Equal(got, rowsOf(0, 0)) {
				t.Errorf("Places(%v, %d): %v", text, columns, got)
			}
		}
	}
}

// Runes of width 1 are in rows that are all full.
func TestPlacesInEachNumberOfColumns(t *testing.T) {
	for columns := 1; columns <= 60; columns++ {
		text := []rune(strings.Repeat("a", 3*columns+1))
		for n := range text {
			l := Places(text[:n], columns)
			if len(l) != n+1 {
				t.Fatalf("%d columns: %d places of %d runes", columns, len(l), n)
			}
			for i, p := range l {
				if p != (api.Span{From: i / columns, To: i % columns}) {
					t.Errorf("%d columns: place %d: %v", columns, i, p)
				}
			}
		}
	}
}

// A wide rune behind each number of runes: with two columns left, with one, and
// with none.
func TestPlacesOfAWideRune(t *testing.T) {
	for columns := 2; columns <= 60; columns++ {
		for ahead := range columns + 3 {
			l := Places([]rune(strings.Repeat("a", ahead)+two+"b"), columns)
			p := api.Span{From: ahead / columns, To: ahead % columns}
			if p.To == columns-1 {
				p = api.Span{From: p.From + 1}
			}
			next := api.Span{From: p.From, To: p.To + 2}
			if next.To == columns {
				next = api.Span{From: p.From + 1}
			}
			if l[ahead] != p || l[ahead+1] != next {
				t.Errorf("%d columns, %d ahead: %v, %v, want %v, %v", columns, ahead, l[ahead], l[ahead+1], p, next)
			}
		}
	}
}

// What is behind each number of runes, up to a full row and beyond it.
func TestPlacesAroundAFullRow(t *testing.T) {
	for columns := 1; columns <= 60; columns++ {
		for ahead := range 2*columns + 2 {
			for _, behind := range []string{"", "b", "\n", "\nb", "\n\n", none, none + "b", none + "\nb", two, two + two, none + two, "\n" + none, two + "\n"} {
				holdPlaces(t, []rune(strings.Repeat("a", ahead)+behind), columns)
			}
		}
	}
}

// Each rune takes its width, whatever it is.
func TestPlacesOfAllRunes(t *testing.T) {
	hold := func(r rune) {
		for _, columns := range []int{1, 2, 3, 60} {
			w := min(width.Of(r), columns)
			want := rowsOf(0, 0, 0, w)
			switch {
			case r == 10:
				want = rowsOf(0, 0, 1, 0)
			case w == columns:
				want = rowsOf(0, 0, 1, 0)
			}
			if got := Places([]rune{r}, columns); !slices.Equal(got, want) {
				t.Fatalf("Places of rune %x, %d columns: %v, want %v", r, columns, got, want)
			}
		}
	}
	for r := rune(-70000); r < 0x120000; r++ {
		hold(r)
	}
	for near := range rune(70000) {
		hold(math.MinInt32 + near)
		hold(math.MaxInt32 - near)
	}
}

func TestPlacesOfAllShortTexts(t *testing.T) {
	texts("a中\u0301\n", 7, func(text []rune) {
		for columns := 1; columns <= 4; columns++ {
			holdPlaces(t, text, columns)
		}
	})
	texts("b한\u200d\n\t", 5, func(text []rune) {
		for _, columns := range []int{1, 2, 3, 4, 5, 6, 59, 60} {
			holdPlaces(t, text, columns)
		}
	})
}

func TestPlacesOfDrawnTexts(t *testing.T) {
	l := lot(22)
	for range 150 {
		for columns := 1; columns <= 60; columns++ {
			holdPlaces(t, l.text(l.draw(400)), columns)
		}
	}
}

func TestPlacesOfWrongColumns(t *testing.T) {
	for _, text := range [][]rune{nil, []rune("abc"), []rune("\n"), []rune(two)} {
		for _, columns := range wrongSides() {
			if got := Places(text, columns); len(got) != 0 {
				t.Errorf("Places(%q, %d): %v", text, columns, got)
			}
		}
		for columns := 1; columns <= 60; columns++ {
			if got := Places(text, columns); len(got) != len(text)+1 {
				t.Errorf("Places(%q, %d): %v", text, columns, got)
			}
		}
	}
}

func TestPlacesOfLongTexts(t *testing.T) {
	const n = 1 << 20
	for _, c := range []struct {
		rune    rune
		columns int
		end     api.Span
	}{
		{'a', 1, api.Span{From: n}},
		{'a', 2, api.Span{From: n / 2}},
		{'a', 60, api.Span{From: n / 60, To: n % 60}},
		{'中', 1, api.Span{From: n}},
		{'中', 3, api.Span{From: n - 1, To: 2}},
		{'中', 59, api.Span{From: n / 29, To: n % 29 * 2}},
		{'\n', 1, api.Span{From: n}},
		{'\n', 60, api.Span{From: n}},
		{0x301, 1, api.Span{}},
		{0x301, 60, api.Span{}},
	} {
		l := Places(slices.Repeat([]rune{c.rune}, n), c.columns)
		if len(l) != n+1 || l[n] != c.end {
			t.Errorf("%d of %x, %d columns: %d, the end %v, want %v", n, c.rune, c.columns, len(l), l[len(l)-1], c.end)
		}
	}
}
