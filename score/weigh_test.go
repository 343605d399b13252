package score

import (
	"math"
	"math/big"
	"slices"
	"testing"
)

// holdWeigh holds a weighted sum to the last bit.
func holdWeigh(t *testing.T, l []float64, w, want float64) {
	t.Helper()
	if got := Weigh(l, w); !same(got, want) {
		t.Errorf("Weigh(%v, %v): %x, want %x", l, w, math.Float64bits(got), math.Float64bits(want))
	}
}

func holdWeighWords(t *testing.T, l []float64, w float64) {
	t.Helper()
	holdWeigh(t, l, w, wordsWeigh(l, w))
}

// P18.2: Weigh

func TestWeighOrdinaryNumbers(t *testing.T) {
	for _, c := range []struct {
		l       []float64
		w, want float64
	}{
		{[]float64{4, 2, 1}, 0.5, 3}, {[]float64{1, 2, 4}, 0.5, 5.25}, {[]float64{1, 2, 3}, 1, 6},
		{[]float64{1, 2, 3}, 2, 11}, {[]float64{3, 2, 1}, 2, 17}, {[]float64{1, 2, 3}, 10, 123},
		{[]float64{1, 2, 3}, -1, 2}, {[]float64{1, 2, 3}, 0, 3}, {[]float64{1, 2, 3}, negativeZero, 3},
		{[]float64{1, 2, 3}, -0.5, 2.25}, {[]float64{5, -5}, 1, 0}, {[]float64{0.1, 0.2}, 1, 0.30000000000000004},
		{[]float64{7}, 3, 7}, {[]float64{-7}, 0, -7}, {[]float64{2, 0, 0, 0}, 3, 54}, {[]float64{16777217, 0}, 1, 16777217},
	} {
		holdWeigh(t, c.l, c.w, c.want)
	}
}

func TestWeighNone(t *testing.T) {
	for _, w := range append(slices.Clone(numbers), nones...) {
		holdWeigh(t, nil, w, 0)
		holdWeigh(t, []float64{}, w, 0)
	}
}

func TestWeighOne(t *testing.T) {
	none := math.NaN()
	for _, x := range append(slices.Clone(numbers), nones...) {
		for _, w := range []float64{math.Inf(1), math.Inf(-1), none} {
			holdWeigh(t, []float64{x}, w, none)
		}
		if zero(x) {
			continue
		}
		for _, w := range numbers[1 : len(numbers)-1] {
			holdWeigh(t, []float64{x}, w, x)
		}
	}
	for _, w := range numbers[1 : len(numbers)-1] {
		holdWeigh(t, []float64{0}, w, 0)
		if math.Signbit(w) {
			holdWeigh(t, []float64{negativeZero}, w, negativeZero)
		} else {
			holdWeigh(t, []float64{negativeZero}, w, 0)
		}
	}
}

func TestWeighZeros(t *testing.T) {
	n := negativeZero
	for _, c := range []struct {
		l       []float64
		w, want float64
	}{
		{[]float64{n, n}, 1, 0}, {[]float64{n, n}, -1, 0}, {[]float64{n, n, n}, -1, n}, {[]float64{n, n}, 0, 0}, {[]float64{n, n}, n, 0},
		{[]float64{0, n}, -1, n}, {[]float64{0, n}, n, n}, {[]float64{n, 0}, -1, 0}, {[]float64{-1, n}, 0, n}, {[]float64{-1, n}, n, 0},
		{[]float64{1, n}, n, n}, {[]float64{1, -1}, 1, 0}, {[]float64{-1, 1}, 1, 0}, {[]float64{1, n}, 0, 0}, {[]float64{5, 0}, n, 0},
	} {
		holdWeigh(t, c.l, c.w, c.want)
	}
}

func TestWeighTheOrderCounts(t *testing.T) {
	holdWeigh(t, []float64{1e16, 1, -1e16}, 1, 0)
	holdWeigh(t, []float64{1e16, -1e16, 1}, 1, 1)
	holdWeigh(t, []float64{1, 0, 0}, 10, 100)
	holdWeigh(t, []float64{0, 1, 0}, 10, 10)
	holdWeigh(t, []float64{0, 0, 1}, 10, 1)
	holdWeigh(t, []float64{math.MaxFloat64, math.MaxFloat64, -math.MaxFloat64}, 1, math.Inf(1))
	holdWeigh(t, []float64{math.MaxFloat64, -math.MaxFloat64, math.MaxFloat64}, 1, math.MaxFloat64)
}

func TestWeighToInfinity(t *testing.T) {
	most, inf, none := math.MaxFloat64, math.Inf(1), math.NaN()
	for _, c := range []struct {
		l       []float64
		w, want float64
	}{
		{[]float64{most, 0}, 2, inf}, {[]float64{most, 0}, -2, -inf}, {[]float64{most, most}, 1, inf}, {[]float64{-most, -most}, 1, -inf},
		{[]float64{most, 0x1p969}, 1, most}, {[]float64{most, 0x1p970}, 1, inf},
		// Rounded together, the product and the sum would be finite.
		{[]float64{most, -most}, 2, inf}, {[]float64{-most, most}, 2, -inf},
		{[]float64{most, 0, -inf}, 2, none}, {[]float64{most, -inf}, 2, none}, {[]float64{most, inf}, 2, inf}, {[]float64{most, -inf}, 1, -inf},
		{[]float64{inf, 1}, 1, inf}, {[]float64{inf, 1}, -1, -inf}, {[]float64{inf, 1}, 0, none}, {[]float64{-inf, 1}, negativeZero, none},
		{[]float64{inf, -inf}, 1, none}, {[]float64{inf, inf}, -1, none}, {[]float64{inf, -inf}, -1, -inf}, {[]float64{inf, -inf}, 0, none},
		{[]float64{inf, most, -most}, 0.5, inf}, {[]float64{1, inf}, 0, inf}, {[]float64{inf, 1, 1}, 0, none}, {[]float64{1}, inf, none},
		{[]float64{1, 2}, -inf, none}, {[]float64{1e200, 1}, 1e200, inf}, {[]float64{1e200, 1}, -1e200, -inf}, {[]float64{1, 1, 1}, 1e200, inf},
	} {
		holdWeigh(t, c.l, c.w, c.want)
	}
}

func TestWeighBelowNormalNumbers(t *testing.T) {
	for _, c := range []struct {
		l       []float64
		w, want float64
	}{
		{[]float64{leastNormal, 0}, 0.5, 0x1p-1023}, {[]float64{leastNormal, 0}, -0.5, -0x1p-1023},
		{[]float64{leastSubnormal, 0}, 1, leastSubnormal}, {[]float64{leastSubnormal, 0}, 2, 0x1p-1073},
		{[]float64{leastSubnormal, 0}, 0.5, 0}, {[]float64{leastSubnormal, negativeZero}, -0.5, negativeZero},
		{[]float64{leastSubnormal, 0}, -0.5, 0}, {[]float64{-leastSubnormal, negativeZero}, 0.5, negativeZero},
		{[]float64{leastSubnormal, 0}, 0.75, leastSubnormal}, {[]float64{3 * leastSubnormal, 0}, 0.5, 2 * leastSubnormal},
		{[]float64{5 * leastSubnormal, 0}, 0.5, 2 * leastSubnormal}, {[]float64{greatestSubnormal, leastSubnormal}, 1, leastNormal},
		{[]float64{leastNormal, -leastSubnormal}, 1, greatestSubnormal}, {[]float64{greatestSubnormal, 0}, 2, 2 * greatestSubnormal},
		{[]float64{1e-200, 0}, 1e-200, 0}, {[]float64{1e-200, negativeZero}, -1e-200, negativeZero}, {[]float64{leastSubnormal, -leastSubnormal}, 1, 0},
		// Rounded together: 2 * leastSubnormal, and leastSubnormal.
		{[]float64{leastSubnormal, leastSubnormal}, 0.5, leastSubnormal}, {[]float64{3 * leastSubnormal, -leastSubnormal}, 0.5, leastSubnormal},
	} {
		holdWeigh(t, c.l, c.w, c.want)
	}
}

func TestWeighRoundsEachResult(t *testing.T) {
	const a, b = 0x1p-30, 0x1p-53
	for _, c := range []struct {
		l       []float64
		w, want float64
	}{
		// (1+a)(1+a) is 1+2a+aa, of which aa is lost.
		{[]float64{1 + a, -1 - 2*a}, 1 + a, 0}, {[]float64{-1 - a, 1 + 2*a}, 1 + a, 0}, {[]float64{1 + a, 1 + 2*a}, -1 - a, 0},
		{[]float64{1 + a, 0}, 1 + a, 1 + 2*a}, {[]float64{1 + a, -1}, 1 + a, 2 * a},
		// Each b is lost, though both are not.
		{[]float64{1, b, b}, 1, 1}, {[]float64{b, b, 1}, 1, 1 + 2*b}, {[]float64{1, b, -1}, 1, 0},
		// With 64 digits first this would be just half of the way, and then 1.
		{[]float64{1, b + 0x1p-65}, 1, 1 + 2*b}, {[]float64{1, b}, 1, 1}, {[]float64{1 + 2*b, b}, 1, 1 + 4*b},
		{[]float64{1, -b}, 1, 1 - b}, {[]float64{1, -b / 2}, 1, 1}, {[]float64{1, -b / 2 * 1.5}, 1, 1 - b},
		{[]float64{0.1, 0}, 3, 0.30000000000000004}, {[]float64{0.1, -0.3}, 3, 0x1p-54},
	} {
		holdWeigh(t, c.l, c.w, c.want)
	}
}

func TestWeighWhatIsNotANumber(t *testing.T) {
	for _, x := range nones {
		for _, w := range append(slices.Clone(numbers), nones...) {
			for _, l := range [][]float64{{x}, {x, 1}, {1, x}, {1, x, 1}, {x, math.Inf(1)}, {0, x, 0, 0}, {x, x}} {
				holdWeigh(t, l, w, math.NaN())
			}
		}
		for _, y := range numbers {
			holdWeigh(t, []float64{y}, x, math.NaN())
			holdWeigh(t, []float64{y, 1, 0}, x, math.NaN())
		}
	}
}

func TestWeighAllShortLists(t *testing.T) {
	few := append(slices.Clone(numbers), 0.5, -0.5, 3, math.NaN())
	for _, w := range few {
		lists(few, 3, func(l []float64) { holdWeighWords(t, l, w) })
	}
}

// fused is the sum whose products are rounded with the sums alone.
func fused(l []float64, w float64) float64 {
	s := 0.0
	for _, x := range l {
		s = math.FMA(s, w, x)
	}
	return s
}

// extended is the sum whose results are rounded to more digits first.
func extended(l []float64, w float64, digits uint) float64 {
	s := new(big.Float)
	weight := new(big.Float).SetFloat64(w)
	for _, x := range l {
		s = new(big.Float).SetPrec(digits).Mul(s, weight)
		s.Add(s, new(big.Float).SetFloat64(x))
	}
	return rounded(s)
}

// twice is the sum whose results are rounded to 64 digits, and then at once to a
// float64.
func twice(l []float64, w float64) float64 {
	s := 0.0
	for _, x := range l {
		p := rounded(new(big.Float).SetPrec(64).Mul(exact(s), exact(w)))
		s = rounded(new(big.Float).SetPrec(64).Add(exact(p), exact(x)))
	}
	return s
}

// Lists of numbers of about the same size, so that the ways to round differ.
func TestWeighDrawnLists(t *testing.T) {
	d := lot(188)
	unlike := map[string]int{}
	for range 60000 {
		l := make([]float64, 1+d.draw(6))
		for i := range l {
			l[i] = d.near(1015, 1031)
		}
		w := d.near(1021, 1025)
		holdWeighWords(t, l, w)
		want := wordsWeigh(l, w)
		for name, other := range map[string]float64{"fused": fused(l, w), "64 digits": extended(l, w, 64), "200 digits": extended(l, w, 200), "twice": twice(l, w)} {
			if !same(other, want) {
				unlike[name]++
			}
		}
	}
	for _, name := range []string{"fused", "64 digits", "200 digits", "twice"} {
		if unlike[name] < 20 {
			t.Errorf("only %d of the lists are another sum when %s", unlike[name], name)
		}
	}
}

func TestWeighAnyDrawnLists(t *testing.T) {
	d := lot(189)
	for range 60000 {
		l := make([]float64, d.draw(8))
		for i := range l {
			l[i] = d.any()
		}
		holdWeighWords(t, l, d.any())
	}
	// Results that are below normal numbers.
	for range 60000 {
		l := make([]float64, 1+d.draw(5))
		for i := range l {
			l[i] = d.near(0, 4)
		}
		holdWeighWords(t, l, d.near(1015, 1025))
	}
	for range 20000 {
		l := []float64{d.near(480, 540), d.near(0, 3)}
		holdWeighWords(t, l, d.near(480, 540))
	}
	// Results around the greatest number.
	for range 60000 {
		l := make([]float64, 1+d.draw(5))
		for i := range l {
			l[i] = d.near(2042, 2046)
		}
		holdWeighWords(t, l, d.near(1020, 1024))
	}
}

func TestWeighLongLists(t *testing.T) {
	const n = 1000000
	ones := slices.Repeat([]float64{1}, n)
	holdWeigh(t, ones, 1, n)
	holdWeigh(t, ones, 0, 1)
	holdWeigh(t, ones, -1, 0)
	holdWeigh(t, ones[1:], -1, 1)
	holdWeigh(t, ones, 0.5, 2)
	holdWeigh(t, ones, 2, math.Inf(1))
	holdWeigh(t, ones, -2, math.Inf(-1))
	holdWeigh(t, ones[1:], -2, math.Inf(1))
	holdWeigh(t, slices.Repeat([]float64{negativeZero}, n+1), -1, negativeZero)
	d := lot(190)
	drawn := make([]float64, 3000)
	for i := range drawn {
		drawn[i] = d.near(1020, 1026)
	}
	for range 20 {
		holdWeighWords(t, drawn, d.near(1018, 1022))
	}
}
