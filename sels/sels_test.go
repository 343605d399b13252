package sels

import (
	"math"
	"slices"
	"testing"

	"stylus/api"
)

// of returns selections with places in pairs: where each is anchored, and where
// its caret is.
func of(places ...int) []api.Sel {
	var l []api.Sel
	for i := 0; i+1 < len(places); i += 2 {
		l = append(l, api.Sel{Anchor: places[i], Head: places[i+1]})
	}
	return l
}

// P11.1

func TestSpan(t *testing.T) {
	for _, c := range []struct {
		s    api.Sel
		want api.Span
	}{
		{api.Sel{}, api.Span{}},
		{api.Sel{Anchor: 2, Head: 5}, api.Span{From: 2, To: 5}},
		{api.Sel{Anchor: 5, Head: 2}, api.Span{From: 2, To: 5}},
		{api.Sel{Anchor: 0, Head: 1}, api.Span{From: 0, To: 1}},
		{api.Sel{Anchor: 1, Head: 0}, api.Span{From: 0, To: 1}},
		{api.Sel{Anchor: 4, Head: 4}, api.Span{From: 4, To: 4}},
		{api.Sel{Anchor: -3, Head: -7}, api.Span{From: -7, To: -3}},
		{api.Sel{Anchor: -7, Head: -3}, api.Span{From: -7, To: -3}},
		{api.Sel{Anchor: 3, Head: -3}, api.Span{From: -3, To: 3}},
		{api.Sel{Anchor: math.MaxInt, Head: math.MinInt}, api.Span{From: math.MinInt, To: math.MaxInt}},
		{api.Sel{Anchor: math.MinInt, Head: math.MaxInt}, api.Span{From: math.MinInt, To: math.MaxInt}},
		{api.Sel{Anchor: math.MinInt, Head: math.MinInt}, api.Span{From: math.MinInt, To: math.MinInt}},
	} {
		if got := Span(c.s); got != c.want {
			t.Errorf("Span(%v): %v, want %v", c.s, got, c.want)
		}
	}
}

func TestIs(t *testing.T) {
	for _, c := range []struct {
		name   string
		l      []api.Sel
		length int
		want   bool
	}{
		{"none: nil", nil, 9, false},
		{"none: empty", of(), 9, false},
		{"none, in no text", nil, 0, false},
		{"one", of(2, 4), 9, true},
		{"one that is empty", of(4, 4), 9, true},
		{"one that is backward", of(4, 2), 9, true},
		{"at 0", of(0, 0), 9, true},
		{"from 0 on", of(0, 3), 9, true},
		{"back to 0", of(3, 0), 9, true},
		{"at the length", of(9, 9), 9, true},
		{"up to the length", of(7, 9), 9, true},
		{"back from the length", of(9, 7), 9, true},
		{"everything", of(0, 9), 9, true},
		{"in a text without runes", of(0, 0), 0, true},
		{"an anchor below 0", of(-1, 3), 9, false},
		{"a caret below 0", of(3, -1), 9, false},
		{"both below 0", of(-1, -1), 9, false},
		{"an anchor beyond the length", of(10, 7), 9, false},
		{"a caret beyond the length", of(7, 10), 9, false},
		{"both beyond the length", of(10, 10), 9, false},
		{"beyond a length of 0", of(0, 1), 0, false},
		{"a later one below 0", of(2, 3, -1, -1), 9, false},
		{"an earlier one below 0", of(-2, -2, 2, 3), 9, false},
		{"an earlier one that goes on from below 0", of(-1, 0, 2, 3), 9, false},
		{"a later one beyond the length", of(2, 3, 5, 10), 9, false},
		{"a later one far beyond the length", of(2, 3, 12, 11), 9, false},
		{"the one between beyond the length, and back", of(0, 1, 12, 3, 14, 14), 9, false},
		{"two with one place between them", of(0, 2, 3, 5), 9, true},
		{"the same, backward", of(2, 0, 5, 3), 9, true},
		{"empty ones, one place apart", of(0, 0, 1, 1, 2, 2), 9, true},
		{"not in order", of(3, 5, 0, 2), 9, false},
		{"the last two not in order", of(0, 1, 6, 7, 3, 4), 9, false},
		{"the first and the last not in order", of(3, 4, 6, 7, 0, 1), 9, false},
		{"in the order of their carets alone", of(5, 0, 2, 3), 9, false},
		{"in the order of their anchors alone", of(2, 3, 6, 0), 9, false},
		{"touch at one place", of(0, 2, 2, 4), 9, false},
		{"touch at one place, backward", of(2, 0, 4, 2), 9, false},
		{"touch, an empty one at the end", of(0, 2, 2, 2), 9, false},
		{"touch, an empty one at the beginning", of(2, 2, 2, 4), 9, false},
		{"overlap", of(0, 3, 2, 5), 9, false},
		{"one in the other", of(0, 6, 2, 3), 9, false},
		{"the same one twice", of(2, 3, 2, 3), 9, false},
		{"the same empty one twice", of(2, 2, 2, 2), 9, false},
		{"the last two touch", of(0, 1, 3, 4, 4, 5), 9, false},
		{"a length below 0", of(0, 0), -1, false},
		{"none, and a length below 0", nil, -1, false},
		{"the least length", of(0, 0), math.MinInt, false},
		{"a place below 0, and a length that is the same", of(-5, -5), -5, false},
		{"the least places", of(math.MinInt, math.MinInt), 9, false},
		{"the greatest place", of(0, math.MaxInt), 9, false},
		{"the greatest place and length", of(0, math.MaxInt-2, math.MaxInt, math.MaxInt), math.MaxInt, true},
		{"touching at the greatest place", of(0, math.MaxInt, math.MaxInt, math.MaxInt), math.MaxInt, false},
		{"from the least to the greatest place", of(math.MaxInt, math.MinInt), math.MaxInt, false},
	} {
		if got := Is(c.l, c.length); got != c.want {
			t.Errorf("%s: Is(%v, %d): %v", c.name, c.l, c.length, got)
		}
	}
}

// sample is a list and what it is normalised to.
type sample struct {
	name   string
	l      []api.Sel
	length int
	want   []api.Sel
}

func holdSamples(t *testing.T, samples []sample) {
	t.Helper()
	for _, c := range samples {
		if got := Normal(c.l, c.length); !slices.Equal(got, c.want) {
			t.Errorf("%s: Normal(%v, %d): %v, want %v", c.name, c.l, c.length, got, c.want)
		}
		if !Is(c.want, max(c.length, 0)) {
			t.Errorf("%s: Is(%v, %d): false", c.name, c.want, c.length)
		}
	}
}

func TestNormalPlaces(t *testing.T) {
	holdSamples(t, []sample{
		{"none: nil", nil, 9, of(0, 0)},
		{"none: empty", of(), 9, of(0, 0)},
		{"none, in a text without runes", nil, 0, of(0, 0)},
		{"none, and a length below 0", nil, -3, of(0, 0)},
		{"one", of(2, 4), 9, of(2, 4)},
		{"one that is empty", of(4, 4), 9, of(4, 4)},
		{"one that is backward", of(4, 2), 9, of(4, 2)},
		{"at 0", of(0, 0), 9, of(0, 0)},
		{"at the length", of(9, 9), 9, of(9, 9)},
		{"everything", of(0, 9), 9, of(0, 9)},
		{"everything, backward", of(9, 0), 9, of(9, 0)},
		{"below 0", of(-1, -1), 9, of(0, 0)},
		{"an anchor below 0", of(-1, 3), 9, of(0, 3)},
		{"a caret below 0", of(3, -1), 9, of(3, 0)},
		{"beyond the length", of(10, 10), 9, of(9, 9)},
		{"an anchor beyond the length", of(10, 3), 9, of(9, 3)},
		{"a caret beyond the length", of(3, 10), 9, of(3, 9)},
		{"empty once both are below 0", of(-4, -2), 9, of(0, 0)},
		{"empty once both are beyond", of(14, 12), 9, of(9, 9)},
		{"empty once one is at 0", of(0, -2), 9, of(0, 0)},
		{"empty once one is at the length", of(9, 12), 9, of(9, 9)},
		{"from below 0 to beyond the length", of(-4, 99), 9, of(0, 9)},
		{"the same, backward", of(99, -4), 9, of(9, 0)},
		{"the least and the greatest numbers", of(math.MinInt, math.MaxInt), 9, of(0, 9)},
		{"the same, backward", of(math.MaxInt, math.MinInt), 9, of(9, 0)},
		{"both the least", of(math.MinInt, math.MinInt), 9, of(0, 0)},
		{"both the greatest", of(math.MaxInt, math.MaxInt), 9, of(9, 9)},
		{"the greatest length", of(math.MinInt, math.MinInt, math.MaxInt, math.MaxInt-1), math.MaxInt, of(0, 0, math.MaxInt, math.MaxInt-1)},
		{"a length of 0", of(3, 5, -2, 1), 0, of(0, 0)},
		{"a length below 0", of(3, 5, -2, 1), -4, of(0, 0)},
		{"a length below 0, and places between", of(-2, -3), -4, of(0, 0)},
		{"the least length", of(3, 5, -2, 1), math.MinInt, of(0, 0)},
		{"a length of 1", of(3, 5, -2, -3), 1, of(0, 0, 1, 1)},
	})
}

func TestNormalMerged(t *testing.T) {
	holdSamples(t, []sample{
		{"touching at one place", of(2, 4, 4, 6), 9, of(2, 6)},
		{"overlapping", of(2, 5, 4, 6), 9, of(2, 6)},
		{"one in the other", of(2, 8, 4, 6), 9, of(2, 8)},
		{"one in the other, the same beginning", of(2, 8, 2, 4), 9, of(2, 8)},
		{"one in the other, the same end", of(2, 8, 6, 8), 9, of(2, 8)},
		{"the same twice", of(2, 4, 2, 4), 9, of(2, 4)},
		{"the same thrice", of(4, 2, 4, 2, 4, 2), 9, of(4, 2)},
		{"an empty one twice", of(3, 3, 3, 3), 9, of(3, 3)},
		{"an empty one at a beginning", of(2, 2, 2, 4), 9, of(2, 4)},
		{"an empty one at an end", of(2, 4, 4, 4), 9, of(2, 4)},
		{"an empty one inside", of(2, 6, 4, 4), 9, of(2, 6)},
		{"an empty one one place ahead", of(1, 1, 2, 4), 9, of(1, 1, 2, 4)},
		{"an empty one one place behind", of(2, 4, 5, 5), 9, of(2, 4, 5, 5)},
		{"one place between two", of(0, 2, 3, 5), 9, of(0, 2, 3, 5)},
		{"one place between two, backward", of(2, 0, 5, 3), 9, of(2, 0, 5, 3)},
		{"one place between empty ones", of(3, 3, 4, 4), 9, of(3, 3, 4, 4)},
		{"a chain", of(0, 2, 2, 4, 4, 6), 9, of(0, 6)},
		{"a chain by way of the last one", of(0, 2, 4, 6, 1, 5), 9, of(0, 6)},
		{"a chain by way of an empty one", of(0, 2, 2, 2, 2, 5), 9, of(0, 5)},
		{"a long one over many", of(1, 1, 3, 4, 6, 6, 0, 7, 9, 9), 9, of(0, 7, 9, 9)},
		{"a long one, and one behind a short one", of(0, 6, 1, 2, 5, 8), 9, of(0, 8)},
		{"two chains", of(8, 9, 0, 1, 7, 8, 1, 2), 9, of(0, 2, 7, 9)},
		{"touching once at 0", of(-5, -4, -2, 0), 9, of(0, 0)},
		{"touching once at 0, one that goes on", of(-5, -4, -2, 2), 9, of(0, 2)},
		{"touching once at the length", of(7, 10, 12, 14), 9, of(7, 9)},
		{"touching once at the length, only there", of(10, 11, 13, 13), 9, of(9, 9)},
		{"not touching at the length", of(7, 8, 12, 14), 9, of(7, 8, 9, 9)},
		{"in another order", of(6, 5, 1, 1, 3, 4), 9, of(1, 1, 3, 4, 6, 5)},
		{"from the last to the first", of(8, 9, 6, 6, 4, 3, 0, 1), 9, of(0, 1, 4, 3, 6, 6, 8, 9)},
	})
}

// Which one decides whether what is merged is backward.
func TestNormalBackward(t *testing.T) {
	holdSamples(t, []sample{
		{"the chapter's example", of(2, 4, 6, 4), 9, of(2, 6)},
		{"the same, in the other order", of(6, 4, 2, 4), 9, of(2, 6)},
		{"the first is backward", of(4, 2, 4, 6), 9, of(6, 2)},
		{"the same, in the other order", of(4, 6, 4, 2), 9, of(6, 2)},
		{"both are backward", of(4, 2, 6, 4), 9, of(6, 2)},
		{"an empty one ahead of a backward one", of(2, 2, 6, 2), 9, of(6, 2)},
		{"an empty one ahead of one that is not", of(2, 2, 2, 6), 9, of(2, 6)},
		{"empty ones ahead, then a backward one, then one that is not", of(2, 2, 2, 2, 4, 2, 4, 6), 9, of(6, 2)},
		{"an empty one behind a backward one", of(6, 2, 6, 6), 9, of(6, 2)},
		{"an empty one in a backward one", of(6, 2, 3, 3), 9, of(6, 2)},
		{"only empty ones", of(2, 2, 2, 2, 2, 2), 9, of(2, 2)},
		{"the same beginning, the shorter one backward", of(2, 6, 4, 2), 9, of(6, 2)},
		{"the same beginning, the longer one backward", of(6, 2, 2, 4), 9, of(2, 6)},
		{"the same beginning, the longer one backward and last", of(2, 4, 6, 2), 9, of(2, 6)},
		{"the same span, the first one backward", of(4, 2, 2, 4), 9, of(4, 2)},
		{"the same span, the second one backward", of(2, 4, 4, 2), 9, of(2, 4)},
		{"the same span, many", of(4, 2, 2, 4, 2, 4, 2, 4), 9, of(4, 2)},
		{"the same span, only at the ends of the text", of(12, -4, -2, 15), 9, of(9, 0)},
		{"the same, in the other order", of(-2, 15, 12, -4), 9, of(0, 9)},
		{"backward ahead of 0, where it is empty", of(-1, -4, 0, 3), 9, of(0, 3)},
		{"not backward ahead of 0, where it is empty", of(-4, -1, 3, 0), 9, of(3, 0)},
		{"an order that places below 0 do not have", of(-1, 3, 3, -2), 9, of(0, 3)},
		{"the first of three, not of the last two", of(4, 2, 4, 6, 6, 8), 9, of(8, 2)},
		{"the same, with others backward", of(2, 4, 6, 4, 8, 6), 9, of(2, 8)},
		{"the first of three, from the last to the first", of(6, 8, 4, 6, 4, 2), 9, of(8, 2)},
		{"the first of three by way of the second one in the list", of(2, 4, 6, 8, 7, 3), 9, of(2, 8)},
		{"each for itself", of(2, 0, 2, 3, 6, 8, 9, 8), 9, of(3, 0, 6, 9)},
	})
}

// Many with the same span, more than a sort of small lists holds: the order in
// the list decides.
func TestManyOfTheSameSpan(t *testing.T) {
	for first := range 60 {
		var l []api.Sel
		for i := range 60 {
			s := api.Sel{Anchor: 3, Head: 5}
			if i < first || first == 0 && i > 0 {
				s = api.Sel{Anchor: 5, Head: 3}
			}
			l = append(l, s)
		}
		if got := Normal(l, 9); !slices.Equal(got, l[:1]) {
			t.Errorf("Normal of 60, %d backward: %v, want %v", first, got, l[:1])
		}
	}
}

// P11.2

func TestAdd(t *testing.T) {
	for _, c := range []struct {
		name   string
		l      []api.Sel
		s      api.Sel
		length int
		want   []api.Sel
	}{
		{"to none", nil, api.Sel{Anchor: 4, Head: 2}, 9, of(4, 2)},
		{"to an empty list", of(), api.Sel{Anchor: 4, Head: 4}, 9, of(4, 4)},
		{"to none, beyond the length", nil, api.Sel{Anchor: 40, Head: 2}, 9, of(9, 2)},
		{"to none, below 0", nil, api.Sel{Anchor: 3, Head: -2}, 9, of(3, 0)},
		{"touching none, behind", of(0, 1, 3, 4), api.Sel{Anchor: 7, Head: 6}, 9, of(0, 1, 3, 4, 7, 6)},
		{"touching none, between", of(0, 1, 7, 8), api.Sel{Anchor: 4, Head: 3}, 9, of(0, 1, 4, 3, 7, 8)},
		{"touching none, ahead", of(5, 6, 8, 8), api.Sel{Anchor: 2, Head: 2}, 9, of(2, 2, 5, 6, 8, 8)},
		{"touching one", of(0, 1, 4, 5), api.Sel{Anchor: 7, Head: 5}, 9, of(0, 1, 4, 7)},
		{"touching one that is empty", of(0, 1, 4, 4), api.Sel{Anchor: 6, Head: 4}, 9, of(0, 1, 6, 4)},
		{"touching several", of(0, 1, 3, 4, 6, 7, 9, 9), api.Sel{Anchor: 6, Head: 4}, 9, of(0, 1, 3, 7, 9, 9)},
		{"touching all", of(0, 1, 4, 3, 6, 7), api.Sel{Anchor: 9, Head: 0}, 9, of(0, 9)},
		{"one that is there", of(0, 1, 4, 3), api.Sel{Anchor: 3, Head: 4}, 9, of(0, 1, 4, 3)},
		{"to a list that is not normal", of(5, 4, 0, 2, 2, 3, 11, 12), api.Sel{Anchor: 4, Head: 4}, 9, of(0, 3, 5, 4, 9, 9)},
		{"a length of 0", of(5, 4, 0, 2), api.Sel{Anchor: 4, Head: 7}, 0, of(0, 0)},
		{"a length below 0", of(5, 4, 0, 2), api.Sel{Anchor: 4, Head: 7}, -1, of(0, 0)},
		{"the least length", nil, api.Sel{Anchor: math.MinInt, Head: math.MaxInt}, math.MinInt, of(0, 0)},
		{"the least and the greatest numbers", of(math.MaxInt, math.MaxInt), api.Sel{Anchor: math.MinInt, Head: math.MinInt}, math.MaxInt, of(0, 0, math.MaxInt, math.MaxInt)},
	} {
		if got, e := Add(c.l, c.s, c.length); !slices.Equal(got, c.want) || e != api.OK {
			t.Errorf("%s: Add(%v, %v, %d): %v, %d, want %v", c.name, c.l, c.s, c.length, got, e, c.want)
		}
	}
}

// apart returns n empty selections with one place between each and the next.
func apart(n int) []api.Sel {
	var l []api.Sel
	for i := range n {
		l = append(l, api.Sel{Anchor: 2 * i, Head: 2 * i})
	}
	return l
}

func TestAddUpToMaxSels(t *testing.T) {
	const far = 1000
	for n := range 40 {
		behind := api.Sel{Anchor: far, Head: far}
		l, e := Add(apart(n), behind, far)
		if n < 16 && (e != api.OK || !slices.Equal(l, append(apart(n), behind))) {
			t.Errorf("Add to %d: %v, %d", n, l, e)
		}
		if n >= 16 && (e != api.ErrFull || len(l) > 0) {
			t.Errorf("Add to %d: %v, %d, want ErrFull alone", n, l, e)
		}
	}
}

func TestAddWhereSomeAreMerged(t *testing.T) {
	for _, c := range []struct {
		name string
		l    []api.Sel
		s    api.Sel
		want int // 0: ErrFull
	}{
		{"one of 16 again", apart(16), api.Sel{Anchor: 8, Head: 8}, 16},
		{"one that touches one of 16", apart(16), api.Sel{Anchor: 8, Head: 9}, 16},
		{"one between 16", apart(16), api.Sel{Anchor: 9, Head: 9}, 0},
		{"one that touches two of 16", apart(16), api.Sel{Anchor: 8, Head: 10}, 15},
		{"one that touches none of 15", apart(15), api.Sel{Anchor: 9, Head: 9}, 16},
		{"one that touches two of 17", apart(17), api.Sel{Anchor: 8, Head: 10}, 16},
		{"one that touches one of 17", apart(17), api.Sel{Anchor: 8, Head: 9}, 0},
		{"one that touches three of 18", apart(18), api.Sel{Anchor: 12, Head: 8}, 16},
		{"one that touches two of 18", apart(18), api.Sel{Anchor: 11, Head: 8}, 0},
		{"one over 900", apart(900), api.Sel{Anchor: 0, Head: 2000}, 1},
		{"one over all but 15 of 900", apart(900), api.Sel{Anchor: 30, Head: 2000}, 16},
		{"one over all but 16 of 900", apart(900), api.Sel{Anchor: 32, Head: 2000}, 0},
		{"20 that are the same, and one", slices.Repeat(of(3, 4), 20), api.Sel{Anchor: 7, Head: 7}, 2},
		{"8 twice, and one", append(apart(8), apart(8)...), api.Sel{Anchor: 40, Head: 40}, 9},
		{"16 twice, and one of them", append(apart(16), apart(16)...), api.Sel{}, 16},
	} {
		l, e := Add(c.l, c.s, 2000)
		if c.want == 0 && (e != api.ErrFull || len(l) > 0) {
			t.Errorf("%s: %v, %d, want ErrFull alone", c.name, l, e)
		}
		if c.want > 0 && (e != api.OK || len(l) != c.want || !Is(l, 2000)) {
			t.Errorf("%s: %v, %d, want %d", c.name, l, e, c.want)
		}
	}
}

// Places that become 0 or the length are merged ahead of the count.
func TestAddAtTheEndsOfTheText(t *testing.T) {
	l := apart(17)
	if got, e := Add(l, l[0], 30); e != api.OK || !slices.Equal(got, apart(16)) {
		t.Errorf("Add to 17, the last two at the length: %v, %d", got, e)
	}
	if got, e := Add(l, l[0], 31); e != api.ErrFull || len(got) > 0 {
		t.Errorf("Add to 17, the last one at the length: %v, %d", got, e)
	}
	for i := range l {
		l[i].Anchor, l[i].Head = l[i].Anchor-2, l[i].Head-2
	}
	if got, e := Add(l, api.Sel{Anchor: -9, Head: -8}, 90); e != api.OK || !slices.Equal(got, apart(16)) {
		t.Errorf("Add to 17, the first two at 0: %v, %d", got, e)
	}
}

// Normal has no greatest number of selections.
func TestNormalOfMany(t *testing.T) {
	for _, n := range []int{15, 16, 17, 61, 5000} {
		want := apart(n)
		l := slices.Clone(want)
		slices.Reverse(l)
		if got := Normal(l, 2*n); !slices.Equal(got, want) {
			t.Errorf("Normal of %d: %d", n, len(got))
		}
		if !Is(want, 2*n) || Is(l, 2*n) {
			t.Errorf("Is of %d", n)
		}
	}
}
