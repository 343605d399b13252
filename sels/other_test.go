package sels

import (
	"math"
	"slices"
	"testing"

	"stylus/api"
)

// R1

func TestAnyNumbers(t *testing.T) {
	numbers := []int{math.MinInt, math.MinInt + 1, math.MinInt32, -1, 0, 1, 2, 2000, math.MaxInt32, 1 << 33, math.MaxInt - 1, math.MaxInt}
	var all []api.Sel
	for _, anchor := range numbers {
		for _, head := range numbers {
			all = append(all, api.Sel{Anchor: anchor, Head: head})
		}
	}
	for _, length := range numbers {
		holdWords(t, nil, length)
		for _, a := range all {
			holdWords(t, []api.Sel{a}, length)
			for _, b := range all {
				holdWords(t, []api.Sel{a, b}, length)
			}
		}
	}
	d := lot(13)
	for range 20000 {
		l := make([]api.Sel, 3+d.draw(18))
		for i := range l {
			l[i] = all[d.draw(len(all))]
		}
		holdWords(t, l, numbers[d.draw(len(numbers))])
	}
}

func TestLongLists(t *testing.T) {
	const n = 300000
	shapes := map[string]func(i int) api.Sel{
		"apart":             func(i int) api.Sel { return api.Sel{Anchor: 3 * i, Head: 3*i + 1} },
		"apart, from last":  func(i int) api.Sel { return api.Sel{Anchor: 3 * (n - i), Head: 3 * (n - i)} },
		"a chain":           func(i int) api.Sel { return api.Sel{Anchor: i, Head: i + 1} },
		"a chain, backward": func(i int) api.Sel { return api.Sel{Anchor: n - i, Head: n - i - 1} },
		"all the same":      func(int) api.Sel { return api.Sel{Anchor: 5, Head: 2} },
		"in one another":    func(i int) api.Sel { return api.Sel{Anchor: 2*n - i, Head: i} },
	}
	for name, shape := range shapes {
		l := make([]api.Sel, n)
		for i := range l {
			l[i] = shape(i)
		}
		got := Normal(l, 3*n+1)
		holdMany(t, name, l, got)
		if more, e := Add(l[1:], l[0], 3*n+1); e == api.OK && !slices.Equal(more, got) || e == api.ErrFull && len(got) <= 16 {
			t.Errorf("%s: Add: %d, %d", name, len(more), e)
		}
	}
}

// holdMany holds that each of the selections is in the one of got that begins
// last ahead of it.
func holdMany(t *testing.T, name string, l, got []api.Sel) {
	t.Helper()
	if !Is(got, math.MaxInt) {
		t.Fatalf("%s: not normal", name)
	}
	for _, s := range l {
		i, found := slices.BinarySearchFunc(got, begins(s), func(x api.Sel, place int) int { return begins(x) - place })
		if !found {
			i--
		}
		if i < 0 || ends(got[i]) < ends(s) {
			t.Fatalf("%s: %v is in none", name, s)
		}
	}
}

// R2

func TestNothingBesideErrFull(t *testing.T) {
	for n := 16; n < 60; n++ {
		if l, e := Add(apart(n), api.Sel{Anchor: 201, Head: 205}, 300); e != api.ErrFull || l != nil {
			t.Errorf("Add to %d: %v, %d", n, l, e)
		}
	}
}

// R3

// roomy returns a list with room behind its end, and all of its memory.
func roomy(l []api.Sel) (list, all []api.Sel) {
	all = append(slices.Clone(l), of(71, 72, 73, 74, 75, 76)...)
	return all[:len(l)], all
}

var lists = [][]api.Sel{
	nil, of(), of(2, 4), of(3, 3), of(-2, 99), of(0, 2, 4, 6), of(6, 5, 1, 1, 3, 1), of(2, 4, 6, 4), of(4, 2, 2, 4, 3, 3, 8, 8), apart(16), apart(17),
}

func TestArgumentsStay(t *testing.T) {
	for _, given := range lists {
		l, all := roomy(given)
		before := slices.Clone(all)
		for length := -1; length < 50; length++ {
			Is(l, length)
			Normal(l, length)
			for _, s := range of(1, 1, 5, 4, 60, 0, -3, -3) {
				Add(l, s, length)
			}
		}
		if !slices.Equal(all, before) {
			t.Errorf("%v: became %v", before, all)
		}
	}
}

// spoil writes over all of a list's memory.
func spoil(l []api.Sel) {
	l = l[:cap(l)]
	for i := range l {
		l[i] = api.Sel{Anchor: -77, Head: -78}
	}
}

func TestResultsAreNewMemory(t *testing.T) {
	for _, given := range lists {
		for _, length := range []int{-1, 0, 3, 9, 90} {
			l, all := roomy(given)
			before := slices.Clone(all)
			one, two := Normal(l, length), Normal(l, length)
			added, e := Add(l, api.Sel{Anchor: 1, Head: 3}, length)
			again, _ := Add(l, api.Sel{Anchor: 1, Head: 3}, length)
			want, wantAdded := slices.Clone(two), slices.Clone(again)
			spoil(one)
			spoil(added)
			if !slices.Equal(all, before) || !slices.Equal(two, want) || !slices.Equal(again, wantAdded) {
				t.Errorf("%v, %d: a result shares memory", given, length)
			}
			spoil(all)
			if !slices.Equal(two, want) || e == api.OK && !slices.Equal(again, wantAdded) {
				t.Errorf("%v, %d: a result changes with its argument", given, length)
			}
		}
	}
}

func TestNilAndEmptyAreTheSame(t *testing.T) {
	for length := -2; length < 5; length++ {
		if Is(nil, length) != Is(of(), length) || !slices.Equal(Normal(nil, length), Normal([]api.Sel{}, length)) {
			t.Errorf("length %d: nil and empty differ", length)
		}
		for _, s := range everySel(-1, 5) {
			a, e := Add(nil, s, length)
			b, f := Add(make([]api.Sel, 0, 3), s, length)
			if !slices.Equal(a, b) || e != f {
				t.Errorf("Add(%v, %d): nil and empty differ", s, length)
			}
		}
	}
}

// R4

func TestCallsDoNotDependOnOthers(t *testing.T) {
	type answer struct {
		is            bool
		normal, added []api.Sel
		e             api.Errno
	}
	ask := func(l []api.Sel, length int) answer {
		a := answer{is: Is(l, length), normal: Normal(l, length)}
		a.added, a.e = Add(l, api.Sel{Anchor: 5, Head: 4}, length)
		return a
	}
	same := func(a, b answer) bool {
		return a.is == b.is && a.e == b.e && slices.Equal(a.normal, b.normal) && slices.Equal(a.added, b.added)
	}
	lengths := []int{-1, 0, 5, 40}
	first := make([][]answer, len(lists))
	for i, l := range lists {
		for _, length := range lengths {
			first[i] = append(first[i], ask(l, length))
		}
	}
	for k := len(lists) - 1; k >= 0; k-- {
		for i, length := range lengths {
			if got := ask(lists[k], length); !same(got, first[k][i]) {
				t.Errorf("%v, %d: %v, then %v", lists[k], length, first[k][i], got)
			}
		}
	}
}
