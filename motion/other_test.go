package motion

import (
	"math"
	"slices"
	"testing"

	"stylus/api"
	"stylus/sels"
)

var numbers = []int{math.MinInt, math.MinInt + 1, math.MinInt32, -2, -1, 0, 1, 2, 3, 5, 8, 9, 10, 11, 2000, math.MaxInt32, 1 << 33, math.MaxInt - 1, math.MaxInt}

var oddTexts = [][]rune{
	nil,
	{10},
	{-1, 10, math.MinInt32, 10, math.MaxInt32},
	{0x110000, 0xD800, 10, 0xFFFD, 0x10FFFF, 10},
	[]rune("ab cd\n\nef"),
}

// R1

func TestAnyNumbers(t *testing.T) {
	for _, text := range oddTexts {
		for _, kind := range numbers {
			for _, a := range numbers {
				holdPlace(t, kind, text, a)
				for _, b := range numbers {
					holdList(t, kind, text, []api.Sel{{Anchor: a, Head: b}})
				}
			}
		}
	}
	d := lot(15)
	for range 20000 {
		l := make([]api.Sel, d.draw(20))
		for i := range l {
			l[i] = api.Sel{Anchor: numbers[d.draw(len(numbers))], Head: numbers[d.draw(len(numbers))]}
		}
		holdList(t, numbers[d.draw(len(numbers))], oddTexts[d.draw(len(oddTexts))], l)
	}
}

func TestLongTexts(t *testing.T) {
	const n = 3000000
	for _, c := range []struct {
		r rune
		// where the middle moves, kind by kind
		want []int
	}{
		{'a', []int{n/2 - 1, n/2 + 1, 0, n, 0, n, n / 2, n / 2, 0, n}},
		{' ', []int{n/2 - 1, n/2 + 1, 0, n, 0, n, n / 2, n / 2, 0, n}},
		{10, []int{n/2 - 1, n/2 + 1, 0, n, n / 2, n / 2, n/2 - 1, n/2 + 1, 0, n}},
	} {
		text := slices.Repeat([]rune{c.r}, n)
		for i, want := range c.want {
			holdSteps(t, text[:n:n], []step{{i + 1, n / 2, want}})
			l := All(i+1, text, []api.Sel{{Anchor: n / 2, Head: n / 2}}, true)
			if s := sels.Span(l[0]); len(l) != 1 || s.From != min(want, n/2) || s.To != max(want, n/2) {
				t.Errorf("All(%d) in a long text: %v", i+1, l)
			}
		}
	}
}

// There may be more selections than api.MaxSels.
func TestLongLists(t *testing.T) {
	const n = 100000
	text := slices.Repeat([]rune("a \n"), n)
	var l, ahead, behind []api.Sel
	for i := range n {
		l = append(l, api.Sel{Anchor: 3*i + 1, Head: 3*i + 1})
		ahead = append(ahead, api.Sel{Anchor: 3 * i, Head: 3 * i})
		behind = append(behind, api.Sel{Anchor: 3*i + 2, Head: 3*i + 2})
	}
	slices.Reverse(l)
	for _, c := range []struct {
		kind int
		want []api.Sel
	}{
		{Left, ahead}, {Right, behind}, {WordLeft, ahead}, {LineStart, ahead}, {LineEnd, behind},
		{Start, ahead[:1]}, {End, []api.Sel{{Anchor: 3 * n, Head: 3 * n}}},
	} {
		if got := All(c.kind, text, l, false); !slices.Equal(got, c.want) {
			t.Errorf("All(%d) of %d: %d", c.kind, n, len(got))
		}
	}
	if got := All(Up, text, l, false); len(got) != n-1 {
		t.Errorf("All up: %d", len(got))
	}
	if got := All(0, text, slices.Concat(l, l, ahead), true); len(got) != 2*n {
		t.Errorf("All of two lists: %d", len(got))
	}
}

// R3

// roomy returns a list with room behind its end, and all of its memory.
func roomy[T any](l []T, behind ...T) (list, all []T) {
	all = append(slices.Clone(l), behind...)
	return all[:len(l)], all
}

var lists = [][]api.Sel{
	nil, {}, of(0, 0), of(2, 4), of(4, 2), of(3, 3), of(-2, 99), of(99, -2), of(0, 2, 4, 6), of(6, 5, 1, 1, 3, 1), of(2, 4, 6, 4), of(4, 2, 2, 4, 3, 3, 8, 8), of(9, 8, 7, 6, 5, 4, 3, 2, 1, 0),
}

func TestArgumentsStay(t *testing.T) {
	text, allText := roomy([]rune("ab cd\n\nef"), 'g', ' ', 10, 'h')
	beforeText := slices.Clone(allText)
	for _, given := range lists {
		l, all := roomy(given, of(71, 72, 73, 74, 75, 76)...)
		before := slices.Clone(all)
		for kind := -1; kind <= 12; kind++ {
			for at := -1; at < 12; at++ {
				Move(kind, text, at)
			}
			All(kind, text, l, false)
			All(kind, text, l, true)
		}
		if !slices.Equal(all, before) || !slices.Equal(allText, beforeText) {
			t.Errorf("%v: became %v, and the text %q", before, all, allText)
		}
	}
}

// What stands behind the end of a text is not looked at.
func TestRunesBehindTheEnd(t *testing.T) {
	for _, behind := range []string{"xyz", "  x", "\n\nx"} {
		text, _ := roomy([]rune("ab cd"), []rune(behind)...)
		for kind := 0; kind <= 11; kind++ {
			for at := -1; at < 9; at++ {
				holdPlace(t, kind, text, at)
			}
		}
	}
}

// spoil writes over all of a list's memory.
func spoil(l []api.Sel) {
	l = l[:cap(l)]
	for i := range l {
		l[i] = api.Sel{Anchor: -77, Head: -78}
	}
}

func TestResultsAreNewMemory(t *testing.T) {
	text := []rune("ab cd\n\nef")
	for _, given := range lists {
		for kind := 0; kind <= 11; kind++ {
			for _, extend := range []bool{false, true} {
				l, all := roomy(given, of(71, 72, 73, 74)...)
				before := slices.Clone(all)
				one, two := All(kind, text, l, extend), All(kind, text, l, extend)
				want := slices.Clone(two)
				spoil(one)
				if !slices.Equal(all, before) || !slices.Equal(two, want) {
					t.Errorf("%d, %v: a result shares memory", kind, given)
				}
				spoil(all)
				if !slices.Equal(two, want) {
					t.Errorf("%d, %v: a result changes with its argument", kind, given)
				}
			}
		}
	}
}

func TestNilAndEmptyAreTheSame(t *testing.T) {
	for kind := -1; kind <= 12; kind++ {
		for _, extend := range []bool{false, true} {
			for _, text := range oddTexts {
				if a, b := All(kind, text, nil, extend), All(kind, text, make([]api.Sel, 0, 3), extend); !slices.Equal(a, b) {
					t.Errorf("All(%d): %v of nil, %v of an empty list", kind, a, b)
				}
			}
			for _, l := range lists {
				if a, b := All(kind, nil, l, extend), All(kind, []rune{}, l, extend); !slices.Equal(a, b) {
					t.Errorf("All(%d): %v in nil, %v in an empty text", kind, a, b)
				}
			}
		}
	}
}

// R4

func TestCallsDoNotDependOnOthers(t *testing.T) {
	type answer struct {
		to            []int
		moved, longer []api.Sel
	}
	ask := func(kind int, text []rune, l []api.Sel) answer {
		a := answer{moved: All(kind, text, l, false), longer: All(kind, text, l, true)}
		for at := -1; at < 11; at++ {
			a.to = append(a.to, Move(kind, text, at))
		}
		return a
	}
	same := func(a, b answer) bool {
		return slices.Equal(a.to, b.to) && slices.Equal(a.moved, b.moved) && slices.Equal(a.longer, b.longer)
	}
	var first []answer
	for _, text := range oddTexts {
		for _, l := range lists {
			for kind := 0; kind <= 11; kind++ {
				first = append(first, ask(kind, text, l))
			}
		}
	}
	next := len(first)
	for _, text := range slices.Backward(oddTexts) {
		for _, l := range slices.Backward(lists) {
			for kind := 11; kind >= 0; kind-- {
				next--
				if got := ask(kind, text, l); !same(got, first[next]) {
					t.Errorf("%d, %q, %v: %v, then %v", kind, text, l, first[next], got)
				}
			}
		}
	}
}
