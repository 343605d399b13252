package motion

import (
	"math"
	"slices"
	"testing"

	"stylus/api"
)

// step is a kind, a place, and where it moves.
type step struct{ kind, at, want int }

func holdSteps(t *testing.T, text []rune, steps []step) {
	t.Helper()
	for _, c := range steps {
		if got := Move(c.kind, text, c.at); got != c.want {
			t.Errorf("Move(%d, %q, %d): %d, want %d", c.kind, text, c.at, got, c.want)
		}
	}
}

// holdAll holds where each place of a text moves, from place 0 on.
func holdAll(t *testing.T, kind int, text string, want ...int) {
	t.Helper()
	l := []rune(text)
	if len(want) != len(l)+1 {
		t.Fatalf("%q has %d places, not %d", text, len(l)+1, len(want))
	}
	for at := range want {
		if got := Move(kind, l, at); got != want[at] {
			t.Errorf("Move(%d, %q, %d): %d, want %d", kind, text, at, got, want[at])
		}
	}
}

// P12.1

func TestNumbersOfKinds(t *testing.T) {
	for i, kind := range []int{Left, Right, WordLeft, WordRight, LineStart, LineEnd, Up, Down, Start, End} {
		if kind != i+1 {
			t.Errorf("kind %d: %d", i+1, kind)
		}
	}
}

func TestTheChaptersExample(t *testing.T) {
	holdSteps(t, []rune("ab cd"), []step{{WordRight, 0, 2}, {WordRight, 2, 5}})
}

func TestLeftRight(t *testing.T) {
	holdAll(t, Left, "ab\n c", 0, 0, 1, 2, 3, 4)
	holdAll(t, Right, "ab\n c", 1, 2, 3, 4, 5, 5)
	holdAll(t, Left, "a", 0, 0)
	holdAll(t, Right, "a", 1, 1)
	holdAll(t, Left, "\n\n", 0, 0, 1)
	holdAll(t, Right, "\n\n", 1, 2, 2)
}

func TestStartEnd(t *testing.T) {
	holdAll(t, Start, "ab\n c", 0, 0, 0, 0, 0, 0)
	holdAll(t, End, "ab\n c", 5, 5, 5, 5, 5, 5)
	holdAll(t, Start, "\n", 0, 0)
	holdAll(t, End, "\n", 1, 1)
}

func TestWordLeft(t *testing.T) {
	holdAll(t, WordLeft, "ab cd", 0, 0, 0, 0, 3, 3)
	holdAll(t, WordLeft, "  ab, .cd ", 0, 0, 0, 2, 2, 2, 2, 2, 7, 7, 7)
	holdAll(t, WordLeft, "word", 0, 0, 0, 0, 0)
	holdAll(t, WordLeft, " ,.", 0, 0, 0, 0)
	holdAll(t, WordLeft, "a  \n\n b\nc", 0, 0, 0, 0, 0, 0, 0, 6, 6, 8)
	holdAll(t, WordLeft, "\n\n", 0, 0, 0)
	holdAll(t, WordLeft, "a_1+Z9", 0, 0, 0, 0, 0, 4, 4)
	holdAll(t, WordLeft, "\n\nab", 0, 0, 0, 2, 2)
}

func TestWordRight(t *testing.T) {
	holdAll(t, WordRight, "ab cd", 2, 2, 5, 5, 5, 5)
	holdAll(t, WordRight, " ab, .cd  ", 3, 3, 3, 8, 8, 8, 8, 8, 10, 10, 10)
	holdAll(t, WordRight, "word", 4, 4, 4, 4, 4)
	holdAll(t, WordRight, " ,.", 3, 3, 3, 3)
	holdAll(t, WordRight, "a  \n\n b\nc", 1, 7, 7, 7, 7, 7, 7, 9, 9, 9)
	holdAll(t, WordRight, "\n\n", 2, 2, 2)
	holdAll(t, WordRight, "a_1+Z9", 3, 3, 3, 6, 6, 6, 6)
	holdAll(t, WordRight, "ab\n\n", 2, 2, 4, 4, 4)
}

// isWordRune asks Move: between runes that are none, a word is where the
// motions stop.
func isWordRune(t *testing.T, r rune) bool {
	t.Helper()
	ahead := Move(WordRight, []rune{' ', r, ' '}, 0) == 2
	for _, c := range []struct {
		text          []rune
		kind, at      int
		ifWord, ifNot int
	}{
		{[]rune{' ', r, ' '}, WordRight, 0, 2, 3},
		{[]rune{' ', r, ' '}, WordRight, 1, 2, 3},
		{[]rune{'a', r, ' '}, WordRight, 0, 2, 1},
		{[]rune{r, ' ', 'a'}, WordRight, 0, 1, 3},
		{[]rune{' ', r, ' '}, WordLeft, 3, 1, 0},
		{[]rune{' ', r, ' '}, WordLeft, 2, 1, 0},
		{[]rune{' ', r, 'a'}, WordLeft, 3, 1, 2},
		{[]rune{'a', ' ', r}, WordLeft, 3, 2, 0},
	} {
		want := c.ifNot
		if ahead {
			want = c.ifWord
		}
		if got := Move(c.kind, c.text, c.at); got != want {
			t.Fatalf("Move(%d, %d, %d): %d, want %d", c.kind, c.text, c.at, got, want)
		}
	}
	return ahead
}

func TestBordersOfWordRunes(t *testing.T) {
	for _, r := range []rune{'A', 'B', 'Y', 'Z', 'a', 'b', 'y', 'z', '0', '1', '8', '9', '_', 128, 129, 255, 256, 0xFFFD, 0xD800, 0x10FFFF, 0x110000, math.MaxInt32} {
		if !isWordRune(t, r) {
			t.Errorf("rune %d: not a word rune", r)
		}
	}
	for _, r := range []rune{'@', '[', '`', '{', '/', ':', '^', '-', ' ', 0, 9, 10, 13, 27, 126, 127, -1, -'a', -128, -129, math.MinInt32} {
		if isWordRune(t, r) {
			t.Errorf("rune %d: a word rune", r)
		}
	}
}

func TestAllWordRunes(t *testing.T) {
	const signs = "ABCDEFGHIJKLMNOPQRSTUVWXYZabcdefghijklmnopqrstuvwxyz0123456789_"
	words := map[rune]int{}
	for _, r := range signs {
		words[r]++
	}
	for r := rune(-70000); r < 70000; r++ {
		if want := words[r] > 0 || r >= 128; isWordRune(t, r) != want {
			t.Fatalf("rune %d: a word rune: %v", r, !want)
		}
	}
	for bit := range 31 {
		if r := rune(1) << bit; isWordRune(t, -r) || isWordRune(t, math.MinInt32+r) || bit > 7 && !isWordRune(t, r+'+') {
			t.Errorf("runes about %d", r)
		}
	}
}

func TestLineStartLineEnd(t *testing.T) {
	holdAll(t, LineStart, "ab\n\ncd\n", 0, 0, 0, 3, 4, 4, 4, 7)
	holdAll(t, LineEnd, "ab\n\ncd\n", 2, 2, 2, 3, 6, 6, 6, 7)
	holdAll(t, LineStart, "\nab", 0, 1, 1, 1)
	holdAll(t, LineEnd, "\nab", 0, 3, 3, 3)
	holdAll(t, LineStart, "\n\n\n", 0, 1, 2, 3)
	holdAll(t, LineEnd, "\n\n\n", 0, 1, 2, 3)
	holdAll(t, LineStart, " one line ", 0, 0, 0, 0, 0, 0, 0, 0, 0, 0, 0)
	holdAll(t, LineEnd, " one line ", 10, 10, 10, 10, 10, 10, 10, 10, 10, 10, 10)
}

// No other rune than 10 ends a line.
func TestOtherRunesEndNoLine(t *testing.T) {
	for _, r := range []rune{13, 9, 11, 12, 0, -10, 0x85, 0x2028, 0x2029, 0x10A, 0x1000A} {
		text := []rune{'a', r, 'b', 10, 'c', r, r}
		for at := range 4 {
			holdSteps(t, text, []step{{LineStart, at, 0}, {LineEnd, at, 3}, {Up, at, at}, {Down, at, at + 4}})
		}
		for at := 4; at <= 7; at++ {
			holdSteps(t, text, []step{{LineStart, at, 4}, {LineEnd, at, 7}, {Up, at, at - 4}, {Down, at, at}})
		}
	}
	holdAll(t, LineEnd, "a\r\nb", 2, 2, 2, 4, 4)
	holdAll(t, Down, "a\r\nb", 3, 4, 4, 3, 4)
}

func TestUp(t *testing.T) {
	holdAll(t, Up, "abcd\nef\nghi", 0, 1, 2, 3, 4, 0, 1, 2, 5, 6, 7, 7)
	holdAll(t, Up, "ab\ncd", 0, 1, 2, 0, 1, 2)
	holdAll(t, Up, "ab\n\ncd", 0, 1, 2, 0, 3, 3, 3)
	holdAll(t, Up, "abc\n", 0, 1, 2, 3, 0)
	holdAll(t, Up, "\n\nabc", 0, 0, 1, 1, 1, 1)
	holdAll(t, Up, "\n\n", 0, 0, 1)
	holdAll(t, Up, "one", 0, 1, 2, 3)
}

func TestDown(t *testing.T) {
	holdAll(t, Down, "abcd\nef\nghi", 5, 6, 7, 7, 7, 8, 9, 10, 8, 9, 10, 11)
	holdAll(t, Down, "ab\ncd", 3, 4, 5, 3, 4, 5)
	holdAll(t, Down, "ab\n\ncd", 3, 3, 3, 4, 4, 5, 6)
	holdAll(t, Down, "abc\n", 4, 4, 4, 4, 4)
	holdAll(t, Down, "\nab\n", 1, 4, 4, 4, 4)
	holdAll(t, Down, "a\n\n", 2, 2, 3, 3)
	holdAll(t, Down, "\n\n", 1, 2, 2)
	holdAll(t, Down, "one", 0, 1, 2, 3)
}

var otherKinds = []int{0, 11, -1, 12, 19, 20, 99, -3, 1 << 32, 1<<32 + 1, 1<<8 + 2, 1 << 62, -1 << 32, math.MinInt, math.MinInt + 1, math.MaxInt, math.MaxInt - 1}

func TestOtherKinds(t *testing.T) {
	for _, text := range []string{"", "a", "ab cd\n\nef", "\n"} {
		l := []rune(text)
		for _, kind := range otherKinds {
			for at := range len(l) + 1 {
				holdSteps(t, l, []step{{kind, at, at}})
			}
			for _, far := range []int{1, 2, 1 << 40} {
				holdSteps(t, l, []step{{kind, -far, 0}, {kind, len(l) + far, len(l)}})
			}
			holdSteps(t, l, []step{{kind, math.MinInt, 0}, {kind, math.MaxInt, len(l)}})
		}
	}
}

// A place below 0 counts as 0, one above the length as the length.
func TestPlacesOutsideTheText(t *testing.T) {
	text := []rune("ab cd\nef")
	fromStart := []step{{Left, 0, 0}, {Right, 0, 1}, {WordLeft, 0, 0}, {WordRight, 0, 2}, {LineStart, 0, 0}, {LineEnd, 0, 5}, {Up, 0, 0}, {Down, 0, 6}, {Start, 0, 0}, {End, 0, 8}}
	fromEnd := []step{{Left, 8, 7}, {Right, 8, 8}, {WordLeft, 8, 6}, {WordRight, 8, 8}, {LineStart, 8, 6}, {LineEnd, 8, 8}, {Up, 8, 2}, {Down, 8, 8}, {Start, 8, 0}, {End, 8, 8}}
	for _, at := range []int{0, -1, -2, -8, -1 << 32, math.MinInt + 1, math.MinInt} {
		for _, c := range fromStart {
			holdSteps(t, text, []step{{c.kind, at, c.want}})
		}
	}
	for _, at := range []int{8, 9, 10, 16, 1 << 32, math.MaxInt - 1, math.MaxInt} {
		for _, c := range fromEnd {
			holdSteps(t, text, []step{{c.kind, at, c.want}})
		}
	}
}

func TestNoText(t *testing.T) {
	for _, text := range [][]rune{nil, {}, make([]rune, 0, 4)} {
		for kind := -1; kind <= 12; kind++ {
			for _, at := range []int{0, 1, -1, 5, math.MinInt, math.MaxInt} {
				holdSteps(t, text, []step{{kind, at, 0}})
			}
		}
	}
}

// of returns selections with places in pairs: where each is anchored, and where
// its caret is.
func of(places ...int) []api.Sel {
	var l []api.Sel
	for i := 0; i+1 < len(places); i += 2 {
		l = append(l, api.Sel{Anchor: places[i], Head: places[i+1]})
	}
	return l
}

// sample is a motion of selections: without extend, and with it.
type sample struct {
	name          string
	kind          int
	l             []api.Sel
	moved, longer []api.Sel
}

func holdSamples(t *testing.T, text string, samples []sample) {
	t.Helper()
	for _, c := range samples {
		if got := All(c.kind, []rune(text), c.l, false); !slices.Equal(got, c.moved) {
			t.Errorf("%s: All(%d, %v): %v, want %v", c.name, c.kind, c.l, got, c.moved)
		}
		if got := All(c.kind, []rune(text), c.l, true); !slices.Equal(got, c.longer) {
			t.Errorf("%s: All(%d, %v), extended: %v, want %v", c.name, c.kind, c.l, got, c.longer)
		}
	}
}

func TestAllOfNone(t *testing.T) {
	for _, none := range [][]api.Sel{nil, {}} {
		holdSamples(t, "ab cd\nef", []sample{
			{"none", Left, none, of(0, 0), of(0, 0)},
			{"none", Right, none, of(1, 1), of(0, 1)},
			{"none", WordLeft, none, of(0, 0), of(0, 0)},
			{"none", WordRight, none, of(2, 2), of(0, 2)},
			{"none", LineStart, none, of(0, 0), of(0, 0)},
			{"none", LineEnd, none, of(5, 5), of(0, 5)},
			{"none", Up, none, of(0, 0), of(0, 0)},
			{"none", Down, none, of(6, 6), of(0, 6)},
			{"none", Start, none, of(0, 0), of(0, 0)},
			{"none", End, none, of(8, 8), of(0, 8)},
			{"none", 0, none, of(0, 0), of(0, 0)},
			{"none", 11, none, of(0, 0), of(0, 0)},
		})
		for kind := -1; kind < 13; kind++ {
			for _, extend := range []bool{false, true} {
				if got := All(kind, nil, none, extend); !slices.Equal(got, of(0, 0)) {
					t.Errorf("All(%d) of none in no text: %v", kind, got)
				}
			}
		}
	}
}

func TestAllOfOneThatIsEmpty(t *testing.T) {
	holdSamples(t, "ab cd\nef", []sample{
		{"a caret", Left, of(4, 4), of(3, 3), of(4, 3)},
		{"a caret", Right, of(4, 4), of(5, 5), of(4, 5)},
		{"a caret", WordLeft, of(4, 4), of(3, 3), of(4, 3)},
		{"a caret", WordRight, of(3, 3), of(5, 5), of(3, 5)},
		{"a caret", LineStart, of(4, 4), of(0, 0), of(4, 0)},
		{"a caret", LineEnd, of(4, 4), of(5, 5), of(4, 5)},
		{"a caret", Up, of(8, 8), of(2, 2), of(8, 2)},
		{"a caret", Down, of(4, 4), of(8, 8), of(4, 8)},
		{"a caret", Start, of(4, 4), of(0, 0), of(4, 0)},
		{"a caret", End, of(4, 4), of(8, 8), of(4, 8)},
		{"a caret", 0, of(4, 4), of(4, 4), of(4, 4)},
		{"a caret", 11, of(4, 4), of(4, 4), of(4, 4)},
		{"at 0", Left, of(0, 0), of(0, 0), of(0, 0)},
		{"at the end", Right, of(8, 8), of(8, 8), of(8, 8)},
		{"below 0", Right, of(-3, -2), of(1, 1), of(0, 1)},
		{"beyond the text", Left, of(12, 9), of(7, 7), of(8, 7)},
	})
}

// Without extend, only Left and Right stop at the selection's own ends: the
// other kinds go on from its Head.
func TestAllOfOneThatIsNotEmpty(t *testing.T) {
	holdSamples(t, "ab cd\nef", []sample{
		{"forward", Left, of(1, 4), of(1, 1), of(1, 3)},
		{"backward", Left, of(4, 1), of(1, 1), of(4, 0)},
		{"forward", Right, of(1, 4), of(4, 4), of(1, 5)},
		{"backward", Right, of(4, 1), of(4, 4), of(4, 2)},
		{"forward", WordLeft, of(1, 5), of(3, 3), of(1, 3)},
		{"backward", WordLeft, of(5, 1), of(0, 0), of(5, 0)},
		{"forward", WordRight, of(1, 4), of(5, 5), of(1, 5)},
		{"backward", WordRight, of(4, 1), of(2, 2), of(4, 2)},
		{"forward", LineStart, of(1, 7), of(6, 6), of(1, 6)},
		{"backward", LineStart, of(7, 1), of(0, 0), of(7, 0)},
		{"forward", LineEnd, of(1, 7), of(8, 8), of(1, 8)},
		{"backward", LineEnd, of(7, 1), of(5, 5), of(7, 5)},
		{"forward", Up, of(1, 8), of(2, 2), of(1, 2)},
		{"backward", Up, of(8, 1), of(1, 1), of(8, 1)},
		{"forward", Down, of(1, 7), of(7, 7), of(1, 7)},
		{"backward", Down, of(8, 1), of(7, 7), of(8, 7)},
		{"forward", Start, of(1, 7), of(0, 0), of(1, 0)},
		{"backward", Start, of(7, 1), of(0, 0), of(7, 0)},
		{"forward", End, of(1, 7), of(8, 8), of(1, 8)},
		{"backward", End, of(7, 1), of(8, 8), of(7, 8)},
		{"forward", 0, of(1, 7), of(7, 7), of(1, 7)},
		{"backward", 0, of(7, 1), of(1, 1), of(7, 1)},
		{"forward", 11, of(1, 7), of(7, 7), of(1, 7)},
		{"backward", 11, of(7, 1), of(1, 1), of(7, 1)},
		{"everything", Left, of(0, 8), of(0, 0), of(0, 7)},
		{"everything, backward", Left, of(8, 0), of(0, 0), of(8, 0)},
		{"everything", Right, of(0, 8), of(8, 8), of(0, 8)},
		{"everything, backward", Right, of(8, 0), of(8, 8), of(8, 1)},
	})
}

// With extend, the Head may go onto the Anchor and to its other side.
func TestAllAcrossTheAnchor(t *testing.T) {
	holdSamples(t, "ab cd\nef", []sample{
		{"onto it", Left, of(3, 4), of(3, 3), of(3, 3)},
		{"onto it", Right, of(4, 3), of(4, 4), of(4, 4)},
		{"onto it", WordLeft, of(3, 5), of(3, 3), of(3, 3)},
		{"onto it", LineStart, of(6, 8), of(6, 6), of(6, 6)},
		{"onto it", LineEnd, of(5, 2), of(5, 5), of(5, 5)},
		{"onto it", Up, of(2, 8), of(2, 2), of(2, 2)},
		{"onto it", Down, of(7, 1), of(7, 7), of(7, 7)},
		{"onto it", Start, of(0, 4), of(0, 0), of(0, 0)},
		{"onto it", End, of(8, 4), of(8, 8), of(8, 8)},
		{"across it", WordLeft, of(4, 5), of(3, 3), of(4, 3)},
		{"across it", WordRight, of(4, 3), of(5, 5), of(4, 5)},
		{"across it", LineStart, of(2, 4), of(0, 0), of(2, 0)},
		{"across it", LineEnd, of(3, 2), of(5, 5), of(3, 5)},
		{"across it", Up, of(6, 7), of(1, 1), of(6, 1)},
		{"across it", Down, of(2, 1), of(7, 7), of(2, 7)},
		{"across it", Start, of(2, 4), of(0, 0), of(2, 0)},
		{"across it", End, of(4, 2), of(8, 8), of(4, 8)},
	})
}

func TestAllOfMany(t *testing.T) {
	holdSamples(t, "ab cd\nef gh\nij", []sample{
		{"one that is not empty, beside carets", Left, of(1, 1, 3, 5, 7, 7, 11, 9), of(0, 0, 3, 3, 6, 6, 9, 9), of(1, 0, 3, 4, 7, 6, 11, 8)},
		{"one that is not empty, beside carets", Right, of(1, 1, 3, 5, 7, 7, 11, 9), of(2, 2, 5, 5, 8, 8, 11, 11), of(1, 2, 3, 6, 7, 8, 11, 10)},
		{"words", WordLeft, of(5, 5, 11, 11, 14, 14), of(3, 3, 9, 9, 12, 12), of(5, 3, 11, 9, 14, 12)},
		{"words", WordRight, of(0, 0, 6, 6, 12, 12), of(2, 2, 8, 8, 14, 14), of(0, 2, 6, 8, 12, 14)},
		{"lines", LineStart, of(2, 2, 8, 9, 14, 12), of(0, 0, 6, 6, 12, 12), of(2, 0, 8, 6, 14, 12)},
		{"lines", LineEnd, of(2, 2, 8, 9, 14, 13), of(5, 5, 11, 11, 14, 14), of(2, 5, 8, 11, 14, 14)},
		{"a line up, the first one stays", Up, of(1, 1, 9, 9, 13, 13), of(1, 1, 3, 3, 7, 7), of(1, 1, 13, 3)},
		{"a line down, the last one stays", Down, of(1, 1, 7, 7), of(7, 7, 13, 13), of(1, 13)},
		{"each stays", 0, of(1, 1, 5, 3, 7, 9), of(1, 1, 3, 3, 9, 9), of(1, 1, 5, 3, 7, 9)},
	})
}

// What is not normal is normalised ahead of the motion.
func TestAllOfWhatIsNotNormal(t *testing.T) {
	holdSamples(t, "ab cd\nef", []sample{
		{"not in order", Right, of(6, 6, 0, 0), of(1, 1, 7, 7), of(0, 1, 6, 7)},
		{"touching", Left, of(4, 6, 2, 4), of(2, 2), of(2, 5)},
		{"touching, the first one backward", Left, of(4, 2, 4, 6), of(2, 2), of(6, 1)},
		{"touching, the first one backward", Right, of(4, 2, 4, 6), of(6, 6), of(6, 3)},
		{"touching, the first one backward", End, of(4, 2, 4, 6), of(8, 8), of(6, 8)},
		{"one in the other", LineStart, of(1, 7, 3, 3), of(6, 6), of(1, 6)},
		{"the same caret twice", Right, of(3, 3, 3, 3), of(4, 4), of(3, 4)},
		{"a caret at the end of another one", Left, of(2, 4, 4, 4), of(2, 2), of(2, 3)},
		{"a caret at the beginning of another one", Right, of(2, 2, 2, 4), of(4, 4), of(2, 5)},
		{"touching once below 0", Right, of(-9, -7, -5, -5), of(1, 1), of(0, 1)},
		{"touching once below 0, one that goes on", Right, of(-9, -9, -3, 2), of(2, 2), of(0, 3)},
		{"empty once below 0, beside another one", Right, of(-9, -7, 4, 4), of(1, 1, 5, 5), of(0, 1, 4, 5)},
		{"touching once beyond the text", Left, of(9, 9, 12, 14), of(7, 7), of(8, 7)},
		{"touching once beyond the text, one that begins in it", Left, of(12, 14, 6, 9), of(6, 6), of(6, 7)},
		{"empty once beyond the text: it moves", Left, of(10, 13), of(7, 7), of(8, 7)},
		{"from below 0 to beyond the text", Left, of(-4, 30), of(0, 0), of(0, 7)},
		{"the same, backward", Right, of(30, -4), of(8, 8), of(8, 1)},
		{"the least and the greatest numbers", Right, of(math.MinInt, math.MinInt, math.MaxInt, math.MaxInt), of(1, 1, 8, 8), of(0, 1, 8, 8)},
		{"the least to the greatest number", WordLeft, of(math.MinInt, math.MaxInt), of(6, 6), of(0, 6)},
		{"the greatest to the least number", WordRight, of(math.MaxInt, math.MinInt), of(2, 2), of(8, 2)},
	})
}

// What meets where it moves to is merged.
func TestAllThatMeet(t *testing.T) {
	holdSamples(t, "ab cd\nef", []sample{
		{"at 0", Start, of(1, 1, 3, 5, 7, 6), of(0, 0), of(7, 0)},
		{"at the end", End, of(1, 1, 3, 5, 7, 6), of(8, 8), of(1, 8)},
		{"at a line's beginning", LineStart, of(1, 1, 4, 4), of(0, 0), of(4, 0)},
		{"at a line's end", LineEnd, of(1, 1, 4, 4), of(5, 5), of(1, 5)},
		{"at a line's beginning, beside another line", LineStart, of(1, 1, 4, 4, 7, 7), of(0, 0, 6, 6), of(4, 0, 7, 6)},
		{"in a word", WordLeft, of(1, 1, 2, 2), of(0, 0), of(2, 0)},
		{"in a word", WordRight, of(0, 0, 1, 1), of(2, 2), of(0, 2)},
		{"at 0", Left, of(0, 0, 1, 1), of(0, 0), of(1, 0)},
		{"at the end", Right, of(7, 7, 8, 8), of(8, 8), of(7, 8)},
		{"a caret and what precedes it", Left, of(1, 3, 4, 4), of(1, 1, 3, 3), of(1, 2, 4, 3)},
		{"a caret and what precedes it", Left, of(3, 3, 4, 4), of(2, 2, 3, 3), of(4, 2)},
		{"a caret and what follows it", Right, of(1, 1, 2, 4), of(2, 2, 4, 4), of(1, 5)},
		{"a caret and what follows it", Right, of(1, 1, 4, 2), of(2, 2, 4, 4), of(1, 2, 4, 3)},
		{"a caret, and the beginning of what follows it", Left, of(1, 1, 2, 5), of(0, 0, 2, 2), of(1, 0, 2, 4)},
		{"a backward one, and what precedes it", Left, of(1, 2, 5, 3), of(1, 1, 3, 3), of(1, 1, 5, 2)},
		{"a backward one reaches what precedes it", LineStart, of(1, 2, 5, 3), of(0, 0), of(5, 0)},
		{"up, from two lines", Up, of(2, 2, 8, 8), of(2, 2), of(8, 2)},
		{"up to between others", Up, of(0, 0, 2, 2, 7, 7), of(0, 0, 1, 1, 2, 2), of(0, 0, 7, 1)},
	})
}

// Which way a merged one goes is as sels.Normal says: as the first one goes
// that is not empty where it moved to.
func TestWhichWayMergedOnesGo(t *testing.T) {
	holdSamples(t, "abcdef\nghijkl", []sample{
		{"forward ones", LineEnd, of(1, 2, 3, 4), of(6, 6), of(1, 6)},
		{"a forward and a backward one", LineStart, of(1, 2, 5, 4), of(0, 0), of(5, 0)},
		{"a backward and a forward one, to the end", LineEnd, of(2, 1, 4, 5), of(6, 6), of(2, 6)},
		{"what became empty does not count", Start, of(0, 2, 6, 4), of(0, 0), of(6, 0)},
		{"what became empty at the end does not count", LineEnd, of(1, 2, 6, 5), of(6, 6), of(1, 6)},
		{"one went forward, the next stays backward", Right, of(1, 2, 6, 3), of(2, 2, 6, 6), of(1, 3, 6, 4)},
		{"one goes forward onto a backward one", WordRight, of(8, 9, 12, 10), of(13, 13), of(8, 13)},
		{"one goes up onto a forward one", Up, of(1, 4, 13, 9), of(2, 2, 4, 4), of(1, 13)},
		{"one goes up onto a backward one", Up, of(4, 1, 13, 9), of(1, 1, 2, 2), of(13, 1)},
		{"one goes down onto a forward one", Down, of(4, 3, 9, 12), of(10, 10, 12, 12), of(4, 12)},
		{"a shorter one comes first", Start, of(2, 3, 5, 4), of(0, 0), of(5, 0)},
	})
}
