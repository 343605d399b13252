package score

import (
	"math"
	"testing"
)

// holdOrder holds how two numbers stand, in both directions.
func holdOrder(t *testing.T, a, b float64, want int) {
	t.Helper()
	if got := Order(a, b); got != want {
		t.Errorf("Order(%x, %x): %d, want %d", math.Float64bits(a), math.Float64bits(b), got, want)
	}
	if got := Order(b, a); got != -want {
		t.Errorf("Order(%x, %x): %d, want %d", math.Float64bits(b), math.Float64bits(a), got, -want)
	}
}

// P18.1: Order

func TestOrderOfOrdinaryNumbers(t *testing.T) {
	for _, c := range []struct {
		a, b float64
		want int
	}{
		{1, 2, -1}, {2, 1, 1}, {2, 2, 0}, {-1, -2, 1}, {-2, -2, 0}, {-2, 1, -1}, {0, 1, -1}, {0, -1, 1}, {0, 0, 0},
		{0.1, 0.2, -1}, {0.1, 0.1, 0}, {0.5, 1e300, -1}, {-0.5, -1e300, 1}, {1e-300, 1e300, -1}, {3, math.Pi, -1},
	} {
		holdOrder(t, c.a, c.b, c.want)
	}
}

func TestOrderOfZeros(t *testing.T) {
	holdOrder(t, negativeZero, 0, -1)
	holdOrder(t, negativeZero, negativeZero, 0)
	holdOrder(t, 0, 0, 0)
	for _, x := range []float64{leastSubnormal, greatestSubnormal, leastNormal, 1, math.MaxFloat64, math.Inf(1)} {
		holdOrder(t, negativeZero, x, -1)
		holdOrder(t, 0, x, -1)
		holdOrder(t, -x, negativeZero, -1)
		holdOrder(t, -x, 0, -1)
	}
}

func TestOrderOfEachTwo(t *testing.T) {
	for i, a := range numbers {
		for k, b := range numbers {
			switch {
			case i < k:
				holdOrder(t, a, b, -1)
			case i > k:
				holdOrder(t, a, b, 1)
			default:
				holdOrder(t, a, b, 0)
			}
		}
	}
}

func TestOrderOfWhatIsNotANumber(t *testing.T) {
	for _, a := range nones {
		for _, b := range nones {
			holdOrder(t, a, b, 0)
		}
		for _, x := range numbers {
			holdOrder(t, x, a, -1)
		}
	}
}

func TestOrderByTheLastBit(t *testing.T) {
	d := lot(181)
	for range 50000 {
		a := d.any()
		if none(a) || infinite(a) {
			continue
		}
		b := math.Nextafter(a, math.Inf(1))
		// Above the number below 0 that is nearest to it comes -0, not 0.
		holdOrder(t, a, b, -1)
		holdOrder(t, -b, -a, -1)
		holdOrder(t, a, a, 0)
	}
}

func TestOrderOfDrawnNumbers(t *testing.T) {
	d := lot(182)
	for range 300000 {
		a, b := d.any(), d.any()
		holdOrder(t, a, b, wordsOrder(a, b))
		holdOrder(t, a, -a, wordsOrder(a, -a))
	}
}

// P18.3: Order

// holdThree holds that no three numbers are in a circle.
func holdThree(t *testing.T, a, b, c float64) {
	t.Helper()
	x, y, z := Order(a, b), Order(b, c), Order(a, c)
	switch {
	case x <= 0 && y <= 0 && z != min(x, y), x >= 0 && y >= 0 && z != max(x, y):
		t.Errorf("%x, %x, %x: %d, %d and %d", math.Float64bits(a), math.Float64bits(b), math.Float64bits(c), x, y, z)
	}
}

func TestOrderOfEachThree(t *testing.T) {
	all := append(append([]float64{}, numbers...), nones...)
	for _, a := range all {
		for _, b := range all {
			if Order(a, b) != -Order(b, a) {
				t.Errorf("%x and %x exchanged: %d, %d", math.Float64bits(a), math.Float64bits(b), Order(a, b), Order(b, a))
			}
			for _, c := range all {
				holdThree(t, a, b, c)
			}
		}
	}
}

func TestOrderOfDrawnThrees(t *testing.T) {
	d := lot(183)
	for range 300000 {
		a, b, c := d.any(), d.any(), d.any()
		holdThree(t, a, b, c)
		holdThree(t, a, b, a)
		holdThree(t, a, a, b)
		holdThree(t, a, b, -a)
	}
}

// P18.2: Bits

func TestBits(t *testing.T) {
	for _, c := range []struct {
		x    float64
		want uint64
	}{
		{0, 0}, {negativeZero, 1 << 63}, {1, 0x3FF0000000000000}, {-1, 0xBFF0000000000000},
		{0.5, 0x3FE0000000000000}, {0.1, 0x3FB999999999999A}, {-1e10, 0xC202A05F20000000},
		{math.Inf(1), 0x7FF0000000000000}, {math.Inf(-1), 0xFFF0000000000000},
		{math.MaxFloat64, 0x7FEFFFFFFFFFFFFF}, {-math.MaxFloat64, 0xFFEFFFFFFFFFFFFF},
		{leastNormal, 0x0010000000000000}, {-leastNormal, 0x8010000000000000},
		{greatestSubnormal, 0x000FFFFFFFFFFFFF}, {-greatestSubnormal, 0x800FFFFFFFFFFFFF},
		{leastSubnormal, 1}, {-leastSubnormal, 0x8000000000000001},
	} {
		if got := Bits(c.x); got != c.want {
			t.Errorf("Bits(%v): %x, want %x", c.x, got, c.want)
		}
	}
}

func TestBitsOfWhatIsNotANumber(t *testing.T) {
	d := lot(184)
	all := append([]float64{math.NaN(), -math.NaN(), math.Inf(1) - math.Inf(1)}, nones...)
	for range 10000 {
		all = append(all, math.Float64frombits(0x7FF0000000000000|d.bits()&0x800FFFFFFFFFFFFF|1<<d.draw(52)))
	}
	for _, x := range all {
		if got := Bits(x); got != 0x7FF8000000000001 {
			t.Errorf("Bits(%x): %x", math.Float64bits(x), got)
		}
	}
}

func TestBitsOfDrawnNumbers(t *testing.T) {
	d := lot(185)
	for range 100000 {
		want := d.bits()
		x := math.Float64frombits(want)
		if none(x) {
			want = 0x7FF8000000000001
		}
		if got := Bits(x); got != want {
			t.Errorf("Bits: %x, want %x", got, want)
		}
	}
}
