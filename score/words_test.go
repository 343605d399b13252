package score

import (
	"math"
	"math/big"
	"testing"
)

// The chapter's words, one by one, with what a number is told by its bits, and
// with all arithmetic exact.

// The kinds of numbers, in their order.
const (
	isLeast = iota
	isBelow
	isNegativeZero
	isZero
	isAbove
	isGreatest
	isNone
)

func kind(x float64) int {
	bits := math.Float64bits(x)
	exponent, fraction, negative := bits>>52&0x7FF, bits&(1<<52-1), bits>>63 == 1
	choose := func(whenNegative, otherwise int) int {
		if negative {
			return whenNegative
		}
		return otherwise
	}
	switch {
	case exponent == 0x7FF && fraction != 0:
		return isNone
	case exponent == 0x7FF:
		return choose(isLeast, isGreatest)
	case exponent == 0 && fraction == 0:
		return choose(isNegativeZero, isZero)
	}
	return choose(isBelow, isAbove)
}

func none(x float64) bool { return kind(x) == isNone }

func infinite(x float64) bool { return kind(x) == isLeast || kind(x) == isGreatest }

func zero(x float64) bool { return kind(x) == isNegativeZero || kind(x) == isZero }

// same reports whether two numbers have the same bits, or both are none.
func same(a, b float64) bool {
	return none(a) && none(b) || math.Float64bits(a) == math.Float64bits(b)
}

// exact returns a number with room for each sum and product of two.
func exact(x float64) *big.Float {
	return new(big.Float).SetPrec(2200).SetFloat64(x)
}

func rounded(x *big.Float) float64 {
	y, _ := x.Float64()
	return y
}

func wordsOrder(a, b float64) int {
	switch k, m := kind(a), kind(b); {
	case k < m:
		return -1
	case k > m:
		return 1
	case k == isBelow || k == isAbove:
		return exact(a).Cmp(exact(b))
	}
	return 0
}

// wordsAhead reports whether the index i comes ahead of k when l is ranked.
func wordsAhead(l []float64, i, k int) bool {
	if none(l[i]) != none(l[k]) {
		return none(l[k])
	}
	if c := wordsOrder(l[i], l[k]); c != 0 {
		return c == 1
	}
	return i < k
}

func wordsTimes(a, b float64) float64 {
	switch {
	case none(a) || none(b) || infinite(a) && zero(b) || zero(a) && infinite(b):
		return math.NaN()
	case infinite(a) || infinite(b):
		if math.Signbit(a) != math.Signbit(b) {
			return math.Inf(-1)
		}
		return math.Inf(1)
	}
	return rounded(exact(0).Mul(exact(a), exact(b)))
}

func wordsPlus(a, b float64) float64 {
	switch {
	case none(a) || none(b) || infinite(a) && infinite(b) && kind(a) != kind(b):
		return math.NaN()
	case infinite(a):
		return a
	case infinite(b):
		return b
	}
	return rounded(exact(0).Add(exact(a), exact(b)))
}

func wordsWeigh(l []float64, w float64) float64 {
	var s float64
	for _, x := range l {
		s = wordsPlus(wordsTimes(s, w), x)
	}
	return s
}

// wordsMark counts in halves, and divides them exactly.
func wordsMark(a, b []rune) float64 {
	if len(a) == 0 {
		return 0
	}
	var places []int
	for i := range a {
		previous := -1
		if i > 0 {
			previous = places[i-1]
		}
		for place := range b {
			if place > previous && b[place] == a[i] {
				places = append(places, place)
				break
			}
		}
		if len(places) == i {
			return math.NaN()
		}
	}
	halves := 0
	for i, place := range places {
		halves += 2
		if i == 0 && place == 0 || i > 0 && place == places[i-1]+1 {
			halves++
		}
	}
	mark, _ := big.NewRat(int64(halves), 2*int64(len(b))).Float64()
	return mark
}

var negativeZero = math.Copysign(0, -1)

const (
	leastNormal       = 0x1p-1022
	greatestSubnormal = 0x1p-1022 - 0x1p-1074
	leastSubnormal    = 0x1p-1074
)

// numbers are in their order.
var numbers = []float64{
	math.Inf(-1), -math.MaxFloat64, math.Nextafter(-1, -2), -1, math.Nextafter(-1, 0),
	-leastNormal, -greatestSubnormal, -leastSubnormal, negativeZero,
	0, leastSubnormal, greatestSubnormal, leastNormal,
	math.Nextafter(1, 0), 1, math.Nextafter(1, 2), math.MaxFloat64, math.Inf(1),
}

// nones are not numbers: with either sign bit, with the quiet bit and without it,
// and with the least and the greatest payload.
var nones = []float64{
	math.Float64frombits(0x7FF0000000000001), math.Float64frombits(0x7FF7FFFFFFFFFFFF),
	math.Float64frombits(0x7FF8000000000000), math.Float64frombits(0x7FFFFFFFFFFFFFFF),
	math.Float64frombits(0xFFF0000000000001), math.Float64frombits(0xFFF7FFFFFFFFFFFF),
	math.Float64frombits(0xFFF8000000000000), math.Float64frombits(0xFFFFFFFFFFFFFFFF),
	math.Float64frombits(0x7FF8000000000001), math.Float64frombits(0xFFF8000000000123),
}

// lists calls f for all lists of at most so many of the things that are given.
func lists[T any](things []T, longest int, f func(l []T)) {
	l := make([]T, 0, longest)
	var grow func()
	grow = func() {
		f(l)
		if len(l) == longest {
			return
		}
		for _, x := range things {
			l = append(l, x)
			grow()
			l = l[:len(l)-1]
		}
	}
	grow()
}

// lot draws numbers, the same ones in each run.
type lot uint64

func (d *lot) next() uint64 {
	*d = *d*6364136223846793005 + 1442695040888963407
	return uint64(*d)
}

func (d *lot) draw(n int) int {
	return int(d.next() >> 33 % uint64(n))
}

// bits draws 64 bits.
func (d *lot) bits() uint64 {
	return d.next()>>32<<32 | d.next()>>32
}

// near draws a number whose exponent is from low to high (as the bits tell it),
// and whose last digits are all 0, or drawn, or all 1.
func (d *lot) near(low, high int) float64 {
	fraction := d.bits() >> 12
	if d.draw(2) == 0 {
		blank := uint64(1)<<d.draw(52) - 1
		fraction &^= blank
		if d.draw(2) == 0 {
			fraction |= blank
		}
	}
	return math.Float64frombits(d.bits()>>63<<63 | uint64(low+d.draw(high-low+1))<<52 | fraction)
}

// any draws any number, and often one of those above.
func (d *lot) any() float64 {
	switch d.draw(4) {
	case 0:
		return numbers[d.draw(len(numbers))]
	case 1:
		return math.Float64frombits(d.bits())
	case 2:
		return d.near(0, 3)
	}
	return d.near(1018, 1028)
}

func TestTheWordsThemselves(t *testing.T) {
	want := []int{isLeast, isBelow, isBelow, isBelow, isBelow, isBelow, isBelow, isBelow, isNegativeZero,
		isZero, isAbove, isAbove, isAbove, isAbove, isAbove, isAbove, isAbove, isGreatest}
	for i, x := range numbers {
		if kind(x) != want[i] {
			t.Errorf("kind(%x): %d, want %d", math.Float64bits(x), kind(x), want[i])
		}
	}
	for _, x := range nones {
		if !none(x) {
			t.Errorf("%x is a number", math.Float64bits(x))
		}
	}
}
