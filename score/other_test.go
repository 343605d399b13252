package score

import (
	"math"
	"slices"
	"testing"
)

// R1

func TestAnyNumbers(t *testing.T) {
	d := lot(192)
	all := append(slices.Clone(numbers), nones...)
	for range 20000 {
		l := make([]float64, d.draw(20))
		for i := range l {
			if d.draw(2) == 0 {
				l[i] = all[d.draw(len(all))]
			} else {
				l[i] = math.Float64frombits(d.bits())
			}
		}
		w := all[d.draw(len(all))]
		holdWeighWords(t, l, w)
		holdRanked(t, "any numbers", l)
	}
}

func TestAnyRunes(t *testing.T) {
	d := lot(193)
	text := func() []rune {
		l := make([]rune, d.draw(6))
		for i := range l {
			if d.draw(3) == 0 {
				l[i] = rune(d.bits())
			} else {
				l[i] = anyRunes[d.draw(len(anyRunes))]
			}
		}
		return l
	}
	for range 20000 {
		holdMarkWords(t, text(), text())
	}
}

func TestLongLists(t *testing.T) {
	const n = 3000000
	for name, l := range map[string][]float64{
		"equal ones": make([]float64, n), "none": slices.Repeat(nones, n/len(nones)), "numbers": slices.Repeat(numbers, n/len(numbers)),
	} {
		got := Rank(l)
		if len(got) != len(l) {
			t.Fatalf("%s: %d", name, len(got))
		}
		for i := 1; i < len(got); i++ {
			if !wordsAhead(l, got[i-1], got[i]) {
				t.Fatalf("%s: %d ahead of %d", name, got[i-1], got[i])
			}
		}
		if x := Weigh(l, 1); none(x) == (name == "equal ones") {
			t.Errorf("%s: %v", name, x)
		}
	}
	long := slices.Repeat(anyRunes, n/len(anyRunes))
	if x := Mark(long, long); x != 1.5 {
		t.Errorf("Mark: %v", x)
	}
	if x := Mark(long, long[:len(long)-1]); !none(x) {
		t.Errorf("Mark: %v", x)
	}
}

// R3

// roomy returns a list with room behind its end, and all of its memory, which has
// the same things there.
func roomy[T any](given []T) (list, all []T) {
	all = append(slices.Clone(given), given...)
	return all[:len(given)], all
}

var someNumbers = []float64{3, math.NaN(), negativeZero, 0, math.Inf(1), 3, nones[0], -7, math.Inf(-1), 0.5}

func bitsOf(l []float64) []uint64 {
	var all []uint64
	for _, x := range l {
		all = append(all, math.Float64bits(x))
	}
	return all
}

func TestNumbersStayAsTheyAre(t *testing.T) {
	for n := range len(someNumbers) + 1 {
		l, all := roomy(someNumbers[:n])
		before := bitsOf(all)
		Rank(l)
		Weigh(l, -0.5)
		if !slices.Equal(bitsOf(all), before) {
			t.Errorf("%v: changed", someNumbers[:n])
		}
	}
}

func TestTextsStayAsTheyAre(t *testing.T) {
	texts := [][]rune{{}, {'a'}, []rune("some text"), []rune("smtxt"), anyRunes}
	for _, one := range texts {
		for _, two := range texts {
			a, allOfA := roomy(one)
			b, allOfB := roomy(two)
			Mark(a, b)
			if !slices.Equal(allOfA, append(slices.Clone(one), one...)) || !slices.Equal(allOfB, append(slices.Clone(two), two...)) {
				t.Errorf("Mark(%v, %v): changed", one, two)
			}
		}
	}
}

// What is behind the end of a list is no part of it.
func TestRoomBehindTheEnd(t *testing.T) {
	l := []float64{1, 2, 3, math.NaN()}
	holdRank(t, l[:2], 1, 0)
	holdWeigh(t, l[:2], 1, 3)
	holdRank(t, l[:0])
	holdWeigh(t, l[:0], 1, 0)
	text := []rune("abcd")
	holdMarkRunes(t, text[:2], text[:2], 1.5)
	holdMarkRunes(t, text[2:], text[:3], math.NaN())
	holdMarkRunes(t, text[:0], text[:0], 0)
}

// Texts that are the same memory, in part or as a whole.
func TestTextsThatShareMemory(t *testing.T) {
	text := []rune("abaab")
	for from := range len(text) + 1 {
		for to := from; to <= len(text); to++ {
			holdMarkWords(t, text[from:to], text)
			holdMarkWords(t, text, text[from:to])
		}
	}
}

func spoil(ranked []int) {
	ranked = ranked[:cap(ranked)]
	for i := range ranked {
		ranked[i] = -77
	}
}

func TestRankedIndicesAreNewMemory(t *testing.T) {
	l, all := roomy(someNumbers)
	before := bitsOf(all)
	one, two := Rank(l), Rank(l)
	want := slices.Clone(two)
	spoil(one)
	if !slices.Equal(two, want) || !slices.Equal(Rank(l), want) {
		t.Error("Rank: indices share memory")
	}
	if !slices.Equal(bitsOf(all), before) {
		t.Error("Rank: the indices share memory with the numbers")
	}
}

func TestListsAreNotKept(t *testing.T) {
	l := slices.Clone(someNumbers)
	ranked := Rank(l)
	want := slices.Clone(ranked)
	for i := range l {
		l[i] = float64(i)
	}
	if !slices.Equal(ranked, want) {
		t.Error("Rank: the numbers are kept")
	}
	holdRank(t, l, 9, 8, 7, 6, 5, 4, 3, 2, 1, 0)
	holdWeigh(t, l, 1, 45)
	a, b := []rune("ab"), []rune("ab")
	holdMarkRunes(t, a, b, 1.5)
	a[0], b[1] = 'x', 'x'
	holdMarkRunes(t, a, b, math.NaN())
	b[0] = 'x'
	holdMarkRunes(t, a[:1], b, 0.75)
}

func TestNilAndEmptyAreTheSame(t *testing.T) {
	if len(Rank(nil)) != 0 || len(Rank([]float64{})) != 0 {
		t.Error("Rank: not empty")
	}
	for _, w := range append(slices.Clone(numbers), nones...) {
		if !same(Weigh(nil, w), Weigh([]float64{}, w)) {
			t.Errorf("Weigh of none, %v: nil and empty differ", w)
		}
	}
	for _, l := range [][]rune{nil, {}, {'a'}} {
		if !same(Mark(nil, l), Mark([]rune{}, l)) || !same(Mark(l, nil), Mark(l, []rune{})) {
			t.Errorf("Mark and %v: nil and empty differ", l)
		}
	}
}

// R4

type answer struct {
	order  int
	ranked []int
	bits   [4]uint64
}

func ask(n int) answer {
	l := append(slices.Clone(someNumbers[:n]), numbers[n:]...)
	x, y := l[n], l[len(l)-1-n]
	a := answer{order: Order(x, y), ranked: Rank(l)}
	a.bits = [4]uint64{Bits(x), math.Float64bits(Weigh(l, y)), math.Float64bits(Weigh(l[n:n+2], x)), math.Float64bits(Mark(anyRunes[:n], anyRunes[n/3:]))}
	return a
}

func TestCallsDoNotDependOnOthers(t *testing.T) {
	var first []answer
	for n := range len(someNumbers) {
		first = append(first, ask(n))
	}
	for range 3 {
		for n := len(someNumbers) - 1; n >= 0; n-- {
			got := ask(n)
			if got.order != first[n].order || !slices.Equal(got.ranked, first[n].ranked) || got.bits != first[n].bits {
				t.Errorf("%d: %v, then %v", n, first[n], got)
			}
		}
	}
}

// How a result that is not a number is represented is no matter of the machine's,
// nor of how what was given is represented.
func TestWhatIsNotANumberIsAlwaysTheSame(t *testing.T) {
	const want = 0x7FF8000000000001
	for _, x := range nones {
		for _, y := range nones {
			for _, got := range []float64{Weigh([]float64{x}, 1), Weigh([]float64{1}, x), Weigh([]float64{x, y}, 1), Weigh([]float64{x}, y)} {
				if math.Float64bits(got) != want {
					t.Errorf("Weigh of %x and %x: %x", math.Float64bits(x), math.Float64bits(y), math.Float64bits(got))
				}
			}
		}
	}
	for _, got := range []float64{
		Weigh([]float64{math.Inf(1), math.Inf(-1)}, 1), Weigh([]float64{1}, math.Inf(1)), Weigh([]float64{math.Inf(-1), 1}, 0),
		Mark([]rune("a"), nil), Mark([]rune("ba"), []rune("ab")),
	} {
		if math.Float64bits(got) != want {
			t.Errorf("%x", math.Float64bits(got))
		}
	}
}
