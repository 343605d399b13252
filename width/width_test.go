package width

import (
	"math"
	"slices"
	"testing"
)

// Runes of each width, by which the lists below are read more easily.
const (
	none = 0x301  // width 0
	one  = 'a'    // width 1
	two  = 0x4E2D // width 2
)

// listed follows the words of the document, span by span, in their order there.
func listed() (zero, double [][2]rune) {
	zero = [][2]rune{{0x300, 0x36F}, {0x200B, 0x200F}, {0xFE00, 0xFE0F}}
	double = [][2]rune{
		{0x1100, 0x115F}, {0x2E80, 0x303E}, {0x3041, 0x4DBF}, {0x4E00, 0xA4CF},
		{0xAC00, 0xD7A3}, {0xF900, 0xFAFF}, {0xFE30, 0xFE6F}, {0xFF00, 0xFF60},
		{0xFFE0, 0xFFE6}, {0x1F300, 0x1F64F}, {0x1F900, 0x1F9FF}, {0x20000, 0x3FFFD},
	}
	return zero, double
}

// lists calls f for all lists of at most so many runes, of all widths.
func lists(longest int, f func(l []rune)) {
	var grow func(l []rune)
	grow = func(l []rune) {
		f(l)
		if len(l) == longest {
			return
		}
		for _, r := range []rune{none, one, two} {
			grow(append(slices.Clone(l), r))
		}
	}
	grow(nil)
}

// fitting follows the words of P2.2: it tries all numbers of runes.
func fitting(l []rune, columns int) int {
	best := 0
	for n := range len(l) + 1 {
		sum := 0
		for _, r := range l[:n] {
			switch r {
			case one:
				sum++
			case two:
				sum += 2
			}
		}
		if sum <= columns {
			best = n
		}
	}
	return best
}

// P2.1

func TestOfOrdinaryRunes(t *testing.T) {
	for _, c := range []struct {
		r    rune
		want int
	}{
		{'a', 1}, {' ', 1}, {'~', 1}, {0, 1}, {'\t', 1}, {'\n', 1}, {27, 1}, {127, 1}, {0xE9, 1}, {0x20AC, 1}, {0xFFFD, 1},
		{0x301, 0}, {0x200D, 0}, {0xFE0F, 0},
		{0x4E2D, 2}, {0x3042, 2}, {0xAC01, 2}, {0xFF21, 2}, {0x1F600, 2}, {0x1F9D0, 2}, {0x2A6D6, 2},
	} {
		if got := Of(c.r); got != c.want {
			t.Errorf("Of(%x): %d, want %d", c.r, got, c.want)
		}
	}
}

// No two spans of the document touch, so that the runes beside each take one column.
func TestOfAtTheEndsOfSpans(t *testing.T) {
	check := func(r rune, want int) {
		if got := Of(r); got != want {
			t.Errorf("Of(%x): %d, want %d", r, got, want)
		}
	}
	zero, double := listed()
	for width, spans := range map[int][][2]rune{0: zero, 2: double} {
		for _, s := range spans {
			check(s[0]-1, 1)
			check(s[0], width)
			check(s[0]+1, width)
			check(s[1]-1, width)
			check(s[1], width)
			check(s[1]+1, 1)
		}
	}
}

func TestOfRunesThatAreNotValid(t *testing.T) {
	for _, r := range []rune{
		math.MinInt32, math.MinInt32 + 1, -0x4E2D, -0x301, -2, -1,
		0xD7FF, 0xD800, 0xDBFF, 0xDC00, 0xDFFF, 0xE000,
		1114111, 1114112, 0x110301, 0x114E2D, 0x10004E2D, math.MaxInt32 - 1, math.MaxInt32,
	} {
		if got := Of(r); got != 1 {
			t.Errorf("Of(%x): %d, want 1", r, got)
		}
	}
}

func TestOfAllRunes(t *testing.T) {
	zero, double := listed()
	want := map[rune]int{}
	fill := func(spans [][2]rune, width int) {
		for _, s := range spans {
			for r := s[0]; r <= s[1]; r++ {
				want[r] = width
			}
		}
	}
	fill(zero, 0)
	fill(double, 2)
	for r := rune(-70000); r < 1200000; r++ {
		w, ok := want[r]
		if !ok {
			w = 1
		}
		if got := Of(r); got != w {
			t.Fatalf("Of(%x): %d, want %d", r, got, w)
		}
	}
}

func TestTextIsTheSum(t *testing.T) {
	for _, c := range []struct {
		l    []rune
		want int
	}{
		{nil, 0}, {[]rune{}, 0},
		{[]rune{one}, 1}, {[]rune{none}, 0}, {[]rune{two}, 2},
		{[]rune{one, two, none, one}, 4},
		{[]rune{none, none, none}, 0},
		{[]rune{two, two, two}, 6},
		{[]rune{-1, 0xD800, 1114112, math.MinInt32, math.MaxInt32}, 5},
		{[]rune{'\n', 0, 27}, 3},
	} {
		if got := Text(c.l); got != c.want {
			t.Errorf("Text(%x): %d, want %d", c.l, got, c.want)
		}
	}
}

func TestTextOfManyRunes(t *testing.T) {
	const n = 100000
	for width, r := range []rune{none, one, two} {
		if got := Text(slices.Repeat([]rune{r}, n)); got != width*n {
			t.Errorf("Text of %d runes of width %d: %d", n, width, got)
		}
	}
}

// P2.2

func TestFitAtEdges(t *testing.T) {
	for _, c := range []struct {
		l       []rune
		columns int
		want    int
	}{
		{[]rune{one, one, one}, 2, 2}, {[]rune{one, one, one}, 3, 3}, {[]rune{one, one, one}, 4, 3},
		// No runes.
		{nil, 0, 0}, {nil, 5, 0}, {[]rune{}, 5, 0}, {nil, -1, 0},
		// Runes of width 0 at the end of what fits.
		{[]rune{one, none, none, one}, 1, 3}, {[]rune{two, none, one}, 2, 2}, {[]rune{one, none}, 1, 2},
		{[]rune{one, none, none}, 9, 3}, {[]rune{none, none, one}, 0, 2}, {[]rune{none}, 0, 1},
		// A rune of width 2 that does not fit any more, although one column is left.
		{[]rune{one, two, one}, 2, 1}, {[]rune{two}, 1, 0}, {[]rune{two, two}, 3, 1}, {[]rune{two, two}, 4, 2},
		// What follows it does not count, even where it would fit.
		{[]rune{one, two, none}, 2, 1}, {[]rune{two, one}, 1, 0}, {[]rune{two, none}, 1, 0}, {[]rune{one, none, two, none}, 2, 2},
		// Columns of 0 and below.
		{[]rune{one}, 0, 0}, {[]rune{two}, 0, 0}, {[]rune{one, none}, 0, 0},
		{[]rune{one}, -1, 0}, {[]rune{two}, -1, 0}, {[]rune{none}, -1, 0}, {[]rune{none, none}, -2, 0},
		// Runes that are not valid take a column each.
		{[]rune{-1, 0xDC00, 1114112}, 2, 2},
	} {
		if got := Fit(c.l, c.columns); got != c.want {
			t.Errorf("Fit(%x, %d): %d, want %d", c.l, c.columns, got, c.want)
		}
	}
}

func TestFitAtTheEndsOfInt(t *testing.T) {
	for _, l := range [][]rune{nil, {none}, {one}, {two}, {two, two, none, one}, {none, two}} {
		for _, columns := range []int{math.MinInt, math.MinInt + 1, math.MinInt + 2, math.MinInt32} {
			if got := Fit(l, columns); got != 0 {
				t.Errorf("Fit(%x, %d): %d, want 0", l, columns, got)
			}
		}
		for _, columns := range []int{math.MaxInt, math.MaxInt - 1, math.MaxInt32} {
			if got := Fit(l, columns); got != len(l) {
				t.Errorf("Fit(%x, %d): %d, want %d", l, columns, got, len(l))
			}
		}
	}
}

func TestFitOfAllShortLists(t *testing.T) {
	lists(6, func(l []rune) {
		for columns := -3; columns <= 14; columns++ {
			if got, want := Fit(l, columns), fitting(l, columns); got != want {
				t.Fatalf("Fit(%x, %d): %d, want %d", l, columns, got, want)
			}
		}
	})
}

// P2.3

func TestWidthsAreAdded(t *testing.T) {
	lists(6, func(l []rune) {
		for cut := range len(l) + 1 {
			if whole, parts := Text(l), Text(l[:cut])+Text(l[cut:]); whole != parts {
				t.Fatalf("Text(%x): %d, but %d in two parts", l, whole, parts)
			}
		}
	})
	for _, r := range []rune{none, one, two, -1, 0x36F, 0x370, 0x3FFFD, 0x3FFFE} {
		if Text([]rune{r}) != Of(r) {
			t.Errorf("Text of %x alone: %d, but Of: %d", r, Text([]rune{r}), Of(r))
		}
	}
}

func TestWhatFitsAndTheNextOne(t *testing.T) {
	lists(6, func(l []rune) {
		for columns := range 14 {
			n := Fit(l, columns)
			if n < 0 || n > len(l) {
				t.Fatalf("Fit(%x, %d): %d", l, columns, n)
			}
			if Text(l[:n]) > columns {
				t.Fatalf("Fit(%x, %d): %d, which are wider", l, columns, n)
			}
			if n < len(l) && Text(l[:n+1]) <= columns {
				t.Fatalf("Fit(%x, %d): %d, but one more is not wider", l, columns, n)
			}
		}
	})
}

// P0, R1 to R5

func TestArgumentsAreNotChanged(t *testing.T) {
	l := []rune{one, -1, two, none, 1114112}
	before := slices.Clone(l)
	Text(l)
	for columns := -1; columns < 9; columns++ {
		Fit(l, columns)
	}
	if !slices.Equal(l, before) {
		t.Errorf("Text or Fit changed its argument: %x, was %x", l, before)
	}
}

func TestRunesBeyondTheLengthDoNotCount(t *testing.T) {
	l := []rune{one, two, none, one}
	if got := Text(l[:2]); got != 3 {
		t.Errorf("Text with room behind it: %d, want 3", got)
	}
	if got := Fit(l[:2], 9); got != 2 {
		t.Errorf("Fit with room behind it: %d, want 2", got)
	}
}

func TestResultsHangOnTheArgumentsAlone(t *testing.T) {
	l := []rune{one, two, none, one}
	for range 3 {
		if Of(two) != 2 || Text(l) != 4 || Fit(l, 3) != 3 {
			t.Fatal("a later call returned something else")
		}
		Text([]rune{two, two})
		Fit([]rune{none}, math.MinInt)
	}
}
