package sels

import (
	"slices"
	"testing"

	"stylus/api"
)

// Below, each of the chapter's words has a function of its own, which follows
// them one by one, and nothing else.

func begins(s api.Sel) int {
	if s.Head < s.Anchor {
		return s.Head
	}
	return s.Anchor
}

func ends(s api.Sel) int {
	if s.Head < s.Anchor {
		return s.Anchor
	}
	return s.Head
}

func isBackward(s api.Sel) bool { return s.Head < s.Anchor }

func isEmpty(s api.Sel) bool { return s.Head == s.Anchor }

func touch(a, b api.Sel) bool { return !(begins(a) > ends(b)) && !(begins(b) > ends(a)) }

func isNormal(l []api.Sel, length int) bool {
	if len(l) == 0 {
		return false
	}
	for i, a := range l {
		for _, place := range []int{a.Anchor, a.Head} {
			if place < 0 || place > length {
				return false
			}
		}
		for k, b := range l {
			if k < i && (begins(b) >= begins(a) || touch(a, b)) {
				return false
			}
		}
	}
	return true
}

// group is a selection into which others were merged, whose indices it has.
type group struct {
	sel  api.Sel
	from []int
}

// normalised merges any two groups that touch, for as long as there are two.
// Only then is it asked which ones are backward.
func normalised(l []api.Sel, length int) []api.Sel {
	l = slices.Clone(l)
	if length < 0 {
		length = 0
	}
	var groups []group
	for i := range l {
		for _, place := range []*int{&l[i].Anchor, &l[i].Head} {
			if *place < 0 {
				*place = 0
			}
			if *place > length {
				*place = length
			}
		}
		groups = append(groups, group{l[i], []int{i}})
	}
	if len(groups) == 0 {
		return []api.Sel{{Anchor: 0, Head: 0}}
	}
	for mergeTwo(&groups) {
	}
	var all []api.Sel
	for len(groups) > 0 {
		first := 0
		for i, g := range groups {
			if begins(g.sel) < begins(groups[first].sel) {
				first = i
			}
		}
		all = append(all, directed(groups[first], l))
		groups = append(groups[:first], groups[first+1:]...)
	}
	return all
}

// mergeTwo merges the last two groups that touch, if there are two.
func mergeTwo(groups *[]group) bool {
	l := *groups
	for i := len(l) - 1; i > 0; i-- {
		for k := i - 1; k >= 0; k-- {
			if a, b := l[i], l[k]; touch(a.sel, b.sel) {
				one := api.Sel{Anchor: begins(a.sel), Head: ends(a.sel)}
				if begins(b.sel) < one.Anchor {
					one.Anchor = begins(b.sel)
				}
				if ends(b.sel) > one.Head {
					one.Head = ends(b.sel)
				}
				l[k] = group{one, append(slices.Clone(a.from), b.from...)}
				*groups = append(l[:i], l[i+1:]...)
				return true
			}
		}
	}
	return false
}

// directed returns a group's selection, backward if the first one that is not
// empty is backward.
func directed(g group, l []api.Sel) api.Sel {
	first := -1
	for _, i := range g.from {
		if !isEmpty(l[i]) && (first < 0 || precedes(l, i, first)) {
			first = i
		}
	}
	if first >= 0 && isBackward(l[first]) {
		return api.Sel{Anchor: ends(g.sel), Head: begins(g.sel)}
	}
	return api.Sel{Anchor: begins(g.sel), Head: ends(g.sel)}
}

func precedes(l []api.Sel, i, k int) bool {
	a, b := l[i], l[k]
	if begins(a) != begins(b) {
		return begins(a) < begins(b)
	}
	if ends(a) != ends(b) {
		return ends(a) < ends(b)
	}
	return i < k
}

// holdWords holds what is returned for a list against the chapter's words, and
// against P11.3.
func holdWords(t *testing.T, l []api.Sel, length int) {
	t.Helper()
	if got, want := Is(l, length), isNormal(l, length); got != want {
		t.Fatalf("Is(%v, %d): %v", l, length, got)
	}
	want := normalised(l, length)
	got := Normal(l, length)
	if !slices.Equal(got, want) {
		t.Fatalf("Normal(%v, %d): %v, want %v", l, length, got, want)
	}
	holdLaws(t, l, length, got)
	if len(l) > 0 {
		holdAdd(t, l[:len(l)-1], l[len(l)-1], length, want)
	}
}

// holdAdd holds what Add returns against the normalised selections.
func holdAdd(t *testing.T, l []api.Sel, s api.Sel, length int, want []api.Sel) {
	t.Helper()
	wantErr := api.OK
	if len(want) > 16 {
		want, wantErr = nil, api.ErrFull
	}
	if got, e := Add(l, s, length); !slices.Equal(got, want) || e != wantErr {
		t.Fatalf("Add(%v, %v, %d): %v, %d, want %v, %d", l, s, length, got, e, want, wantErr)
	}
}

// P11.3

// holdLaws holds that normalised selections are normal, that normal ones do
// not change, and that each place is in the selection into which it came.
func holdLaws(t *testing.T, l []api.Sel, length int, got []api.Sel) {
	t.Helper()
	length = max(length, 0)
	if !Is(got, length) || !isNormal(got, length) {
		t.Fatalf("Normal(%v, %d): %v, which are not normal", l, length, got)
	}
	if again := Normal(got, length); !slices.Equal(again, got) {
		t.Fatalf("Normal(%v, %d): %v, want no change", got, length, again)
	}
	if isNormal(l, length) && !slices.Equal(got, l) {
		t.Fatalf("Normal(%v, %d): %v, want no change", l, length, got)
	}
	for _, s := range l {
		anchor, head := min(max(s.Anchor, 0), length), min(max(s.Head, 0), length)
		holds := func(x api.Sel) bool {
			return begins(x) <= min(anchor, head) && max(anchor, head) <= ends(x)
		}
		if !slices.ContainsFunc(got, holds) {
			t.Fatalf("Normal(%v, %d): %v, where %v is in none", l, length, got, s)
		}
	}
}

// everySel returns all selections with places from a to b.
func everySel(a, b int) []api.Sel {
	var all []api.Sel
	for anchor := a; anchor <= b; anchor++ {
		for head := a; head <= b; head++ {
			all = append(all, api.Sel{Anchor: anchor, Head: head})
		}
	}
	return all
}

// eachList calls f with each list of n selections of those given.
func eachList(n int, of []api.Sel, f func(l []api.Sel)) {
	l := make([]api.Sel, n)
	var fill func(i int)
	fill = func(i int) {
		if i == n {
			f(l)
			return
		}
		for _, s := range of {
			l[i] = s
			fill(i + 1)
		}
	}
	fill(0)
}

func TestAllShortLists(t *testing.T) {
	for _, c := range []struct{ most, from, to int }{{2, -2, 7}, {3, -1, 4}, {4, 0, 3}} {
		of := everySel(c.from, c.to)
		for n := range c.most + 1 {
			eachList(n, of, func(l []api.Sel) {
				for length := c.to - 1; length <= c.to; length++ {
					holdWords(t, l, length)
				}
			})
		}
	}
}

func TestAllLengths(t *testing.T) {
	for _, n := range []int{0, 1, 2} {
		eachList(n, everySel(-2, 5), func(l []api.Sel) {
			for length := -3; length <= 6; length++ {
				holdWords(t, l, length)
			}
		})
	}
}

// lot draws numbers, the same ones in each run.
type lot uint64

func (d *lot) draw(n int) int {
	*d = *d*6364136223846793005 + 1442695040888963407
	return int(uint64(*d) >> 33 % uint64(n))
}

func TestDrawnLists(t *testing.T) {
	d := lot(11)
	for range 60000 {
		length := d.draw(90)
		reach := 1 + d.draw(7)
		l := make([]api.Sel, d.draw(24))
		for i := range l {
			l[i].Anchor = d.draw(length+20) - 10
			l[i].Head = l[i].Anchor
			if d.draw(3) > 0 {
				l[i].Head += d.draw(2*reach+1) - reach
			}
		}
		holdWords(t, l, length)
	}
}

// Lists that are normal, or nearly so, are seldom drawn: here they are built.
func TestDrawnNormalLists(t *testing.T) {
	d := lot(12)
	for range 60000 {
		var l []api.Sel
		at := d.draw(3)
		for range 1 + d.draw(20) {
			s := api.Sel{Anchor: at, Head: at + d.draw(4)}
			at = s.Head + 1 + d.draw(3)
			if d.draw(2) == 0 {
				s.Anchor, s.Head = s.Head, s.Anchor
			}
			l = append(l, s)
		}
		length := ends(l[len(l)-1]) + d.draw(2)
		if !isNormal(l, length) {
			t.Fatalf("%v, %d: not normal", l, length)
		}
		holdWords(t, l, length)
		i := d.draw(len(l))
		l[i].Head += d.draw(5) - 2
		holdWords(t, l, length)
		k := d.draw(len(l))
		l[i], l[k] = l[k], l[i]
		holdWords(t, l, length)
	}
}
