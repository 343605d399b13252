package score

import (
	"math"
	"slices"
	"testing"
)

func holdRank(t *testing.T, l []float64, want ...int) {
	t.Helper()
	if got := Rank(l); !slices.Equal(got, want) {
		t.Errorf("Rank(%v): %v, want %v", l, got, want)
	}
}

// holdRanked holds that each index is there once, and each one ahead of the next
// one by the chapter's words. No other list of indices is so.
func holdRanked(t *testing.T, name string, l []float64) {
	t.Helper()
	got := Rank(l)
	if len(got) != len(l) {
		t.Fatalf("%s: %d indices of %d numbers", name, len(got), len(l))
	}
	seen := make([]bool, len(l))
	for n, i := range got {
		if i < 0 || i >= len(l) || seen[i] {
			t.Fatalf("%s: the index %d", name, i)
		}
		seen[i] = true
		if n > 0 && !wordsAhead(l, got[n-1], i) {
			t.Fatalf("%s: %d (%v) ahead of %d (%v)", name, got[n-1], l[got[n-1]], i, l[i])
		}
	}
}

// P18.1: Rank

func TestRankOfNone(t *testing.T) {
	holdRank(t, nil)
	holdRank(t, []float64{})
	holdRank(t, make([]float64, 0, 5))
}

func TestRankOfOne(t *testing.T) {
	for _, x := range append(slices.Clone(numbers), nones...) {
		holdRank(t, []float64{x}, 0)
	}
}

func TestRankOfTwo(t *testing.T) {
	holdRank(t, []float64{1, 2}, 1, 0)
	holdRank(t, []float64{2, 1}, 0, 1)
	holdRank(t, []float64{1, 1}, 0, 1)
	holdRank(t, []float64{-1, -2}, 0, 1)
	for i, a := range numbers {
		for k, b := range numbers {
			if i >= k {
				holdRank(t, []float64{a, b}, 0, 1)
			} else {
				holdRank(t, []float64{a, b}, 1, 0)
			}
		}
	}
}

func TestRankOfSome(t *testing.T) {
	none := math.NaN()
	holdRank(t, []float64{1, none, 2, 1, math.Inf(1), none}, 4, 2, 0, 3, 1, 5)
	holdRank(t, []float64{3, 1, 2}, 0, 2, 1)
	holdRank(t, []float64{1, 2, 3}, 2, 1, 0)
	holdRank(t, []float64{3, 2, 1}, 0, 1, 2)
	holdRank(t, []float64{-3, 2, -1, 0}, 1, 3, 2, 0)
}

func TestRankOfEqualOnes(t *testing.T) {
	for _, x := range append(slices.Clone(numbers), nones...) {
		holdRank(t, []float64{x, x, x, x}, 0, 1, 2, 3)
		holdRanked(t, "many equal ones", slices.Repeat([]float64{x}, 500))
	}
	holdRank(t, []float64{5, 7, 5, 6, 5, 7}, 1, 5, 3, 0, 2, 4)
	holdRank(t, []float64{1, 0, 1, 0, 1, 0}, 0, 2, 4, 1, 3, 5)
}

func TestRankOfZeros(t *testing.T) {
	holdRank(t, []float64{negativeZero, 0}, 1, 0)
	holdRank(t, []float64{0, negativeZero}, 0, 1)
	holdRank(t, []float64{negativeZero, 0, negativeZero, 0}, 1, 3, 0, 2)
	holdRank(t, []float64{-leastSubnormal, negativeZero, 0, leastSubnormal}, 3, 2, 1, 0)
}

func TestRankOfInfinity(t *testing.T) {
	least, greatest := math.Inf(-1), math.Inf(1)
	holdRank(t, []float64{least, greatest}, 1, 0)
	holdRank(t, []float64{least, -math.MaxFloat64, math.MaxFloat64, greatest}, 3, 2, 1, 0)
	holdRank(t, []float64{greatest, least, greatest, least}, 0, 2, 1, 3)
}

func TestRankOfWhatIsNotANumber(t *testing.T) {
	for _, a := range nones {
		for _, b := range nones {
			holdRank(t, []float64{a, b}, 0, 1)
			holdRank(t, []float64{a, math.Inf(-1), b}, 1, 0, 2)
			holdRank(t, []float64{a, math.Inf(-1), b, math.Inf(1), a}, 3, 1, 0, 2, 4)
		}
		for _, x := range numbers {
			holdRank(t, []float64{a, x}, 1, 0)
			holdRank(t, []float64{x, a}, 0, 1)
		}
	}
}

func TestRankOfAllShortLists(t *testing.T) {
	lists([]float64{math.Inf(-1), -1, negativeZero, 0, 1, math.Inf(1), math.NaN(), nones[4]}, 5, func(l []float64) {
		holdRanked(t, "a short list", l)
	})
}

func TestRankOfDrawnLists(t *testing.T) {
	d := lot(186)
	for range 4000 {
		l := make([]float64, d.draw(60))
		few := 1 + d.draw(30)
		for i := range l {
			switch n := d.draw(few); {
			case n == 0:
				l[i] = nones[d.draw(len(nones))]
			case n < len(numbers):
				l[i] = numbers[n]
			default:
				l[i] = d.any()
			}
		}
		holdRanked(t, "a drawn list", l)
	}
}

func TestRankOfLongLists(t *testing.T) {
	for _, n := range []int{100, 257, 500, 1000, 50000} {
		var d lot
		shapes := map[string]func(i int) float64{
			"in order":                func(i int) float64 { return float64(i) - 100 },
			"in the opposite order":   func(i int) float64 { return float64(n-i) - 100 },
			"in order, equal ones":    func(i int) float64 { return float64(i / 7) },
			"opposite, equal ones":    func(i int) float64 { return float64((n - i) / 7) },
			"equal ones among others": func(i int) float64 { return float64(i * (i % 2)) },
			"equal ones, then others": func(i int) float64 { return float64(max(0, i-n/2)) },
			"up and down":             func(i int) float64 { return float64(min(i, n-i)) },
			"each other one is none": func(i int) float64 {
				if i%2 == 0 {
					return nones[i/2%len(nones)]
				}
				return float64(n - i)
			},
			"zeros":                     func(i int) float64 { return math.Copysign(0, float64(d.draw(3)-1)) },
			"drawn of a few":            func(int) float64 { return numbers[d.draw(len(numbers))] },
			"drawn of a few, with none": func(int) float64 { return append(numbers[:5:5], nones...)[d.draw(5+len(nones))] },
			"drawn":                     func(int) float64 { return d.any() },
		}
		for name, shape := range shapes {
			d = lot(187) // for each shape, as a map has no order
			l := make([]float64, n)
			for i := range l {
				l[i] = shape(i)
			}
			holdRanked(t, name, l)
		}
	}
}
