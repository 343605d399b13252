package marks

import (
	"math"
	"slices"
	"testing"

	"stylus/api"
)

// numberedRange is what the tests know of a range.
type numberedRange struct {
	id int
	x  Range
}

// add adds ranges that fit, and returns what the marks should hold.
func add(t *testing.T, m *Marks, ranges ...Range) []numberedRange {
	t.Helper()
	var known []numberedRange
	for _, x := range ranges {
		id, e := m.Add(x)
		if id < 1 || e != api.OK {
			t.Fatalf("Add(%v): %d, %d", x, id, e)
		}
		known = append(known, numberedRange{id, x})
	}
	return known
}

// of returns marks with spans that stick at no end.
func of(t *testing.T, spans ...api.Span) *Marks {
	t.Helper()
	m := New()
	for _, s := range spans {
		add(t, m, Range{Span: s})
	}
	return m
}

// hold holds the numbers and the ranges of marks against those that are known.
func hold(t *testing.T, m *Marks, known []numberedRange) {
	t.Helper()
	var ids []int
	for _, k := range known {
		ids = append(ids, k.id)
		if x, e := m.Get(k.id); x != k.x || e != api.OK {
			t.Fatalf("Get(%d): %v, %d, want %v", k.id, x, e, k.x)
		}
	}
	if got := m.All(); !slices.Equal(got, ids) {
		t.Fatalf("All: %v, want %v", got, ids)
	}
}

// holdAsked holds what marks tell of places, spans and parents against the
// words of the chapter, up to a place.
func holdAsked(t *testing.T, m *Marks, known []numberedRange, last int) {
	t.Helper()
	for at := -1; at <= last+1; at++ {
		if got, want := m.Stab(at), stabbed(known, at); !slices.Equal(got, want) {
			t.Fatalf("Stab(%d) of %v: %v, want %v", at, known, got, want)
		}
		for to := at; to <= last+1; to++ {
			if got, want := m.Over(span(at, to)), overlapping(known, span(at, to)); !slices.Equal(got, want) {
				t.Fatalf("Over(%d, %d) of %v: %v, want %v", at, to, known, got, want)
			}
		}
	}
	for _, k := range known {
		if got, e := m.Parent(k.id); got != parentOf(known, k) || e != api.OK {
			t.Fatalf("Parent(%d) of %v: %d, %d, want %d", k.id, known, got, e, parentOf(known, k))
		}
	}
}

// stabbed looks for the place among those of each range.
func stabbed(known []numberedRange, at int) []int {
	var ids []int
	for _, k := range known {
		for place := k.x.From; place != k.x.To; place++ {
			if place == at {
				ids = append(ids, k.id)
			}
		}
	}
	return ids
}

// overlapping follows the words of the chapter: the From of each is less than the To of the other one.
func overlapping(known []numberedRange, s api.Span) []int {
	var ids []int
	for _, k := range known {
		ends := [2]api.Span{k.x.Span, s}
		if ends[0].From < ends[1].To && ends[1].From < ends[0].To {
			ids = append(ids, k.id)
		}
	}
	return ids
}

// isIn follows the words of the chapter on a range that is in another one.
func isIn(inner, outer numberedRange) bool {
	if inner.id == outer.id {
		return false
	}
	if inner.x.From == outer.x.From && inner.x.To == outer.x.To {
		return outer.id < inner.id
	}
	within := func(place int) bool { return outer.x.From <= place && place <= outer.x.To }
	return within(inner.x.From) && within(inner.x.To)
}

// parentOf throws out all ranges but one, in the order of the chapter's words:
// by length, by From, by number.
func parentOf(known []numberedRange, k numberedRange) int {
	var left []numberedRange
	for _, other := range known {
		if isIn(k, other) {
			left = append(left, other)
		}
	}
	for _, rank := range []func(k numberedRange) int{
		func(k numberedRange) int { return k.x.From - k.x.To },
		func(k numberedRange) int { return k.x.From },
		func(k numberedRange) int { return k.id },
	} {
		best := math.MinInt
		for _, other := range left {
			best = max(best, rank(other))
		}
		left = slices.DeleteFunc(left, func(other numberedRange) bool { return rank(other) < best })
	}
	if len(left) == 0 {
		return 0
	}
	return left[0].id
}

// noNumbers are numbers that were never given where so many were.
func noNumbers(given int) []int {
	return []int{math.MinInt, math.MinInt32, -given, -2, -1, 0, given + 1, given + 2, given + 100, math.MaxInt32, math.MaxInt}
}

// holdNone holds that there is no range with a number.
func holdNone(t *testing.T, m *Marks, id int) {
	t.Helper()
	if x, e := m.Get(id); x != (Range{}) || e != api.ErrNone {
		t.Errorf("Get(%d): %v, %d", id, x, e)
	}
	if e := m.Remove(id); e != api.ErrNone {
		t.Errorf("Remove(%d): %d", id, e)
	}
	if p, e := m.Parent(id); p != 0 || e != api.ErrNone {
		t.Errorf("Parent(%d): %d, %d", id, p, e)
	}
}

// P4.2

func TestNewHasNoRanges(t *testing.T) {
	m := New()
	if m == nil {
		t.Fatal("New: nil")
	}
	hold(t, m, nil)
	for _, id := range noNumbers(0) {
		holdNone(t, m, id)
	}
	if l := m.Stab(0); len(l) != 0 {
		t.Errorf("Stab: %v", l)
	}
	if l := m.Over(span(0, 9)); len(l) != 0 {
		t.Errorf("Over: %v", l)
	}
	if e := m.Edit(edit(0, 5, 2)); e != api.OK {
		t.Errorf("Edit: %d", e)
	}
	hold(t, m, nil)
}

func TestNewMarksAreTheirOwn(t *testing.T) {
	a, b := New(), New()
	known := add(t, a, Range{Span: span(1, 2)})
	hold(t, b, nil)
	if id, e := b.Add(Range{Span: span(3, 4)}); id != 1 || e != api.OK {
		t.Errorf("Add: %d, %d", id, e)
	}
	if b.Edit(edit(0, 0, 5)) != api.OK || b.Remove(1) != api.OK {
		t.Error("Edit, Remove")
	}
	hold(t, a, known)
}

func TestAddKeepsAllOfARange(t *testing.T) {
	m := New()
	var known []numberedRange
	for i, s := range []api.Span{span(2, 4), span(0, 0), span(5, 5), span(0, greatest), span(greatest, greatest), span(2, 4)} {
		for j, x := range sticking(s) {
			id, e := m.Add(x)
			if id != 4*i+j+1 || e != api.OK {
				t.Fatalf("Add(%v): %d, %d", x, id, e)
			}
			known = append(known, numberedRange{id, x})
			hold(t, m, known)
		}
	}
}

func TestAddWrongRanges(t *testing.T) {
	m := New()
	known := add(t, m, Range{Span: span(2, 4)})
	for _, x := range wrongRanges() {
		if id, e := m.Add(x); id != 0 || e != api.ErrArg {
			t.Errorf("Add(%v): %d, %d", x, id, e)
		}
	}
	hold(t, m, known)
	// What was not added has no number.
	if id, e := m.Add(Range{Span: span(0, 1)}); id != 2 || e != api.OK {
		t.Errorf("Add: %d, %d", id, e)
	}
}

func TestAddUpToTheLimit(t *testing.T) {
	m := New()
	var known []numberedRange
	for i := range api.MaxMarks {
		known = append(known, add(t, m, Range{Span: span(i, 2*i)})...)
	}
	hold(t, m, known)
	for range 3 {
		if id, e := m.Add(Range{Span: span(0, 1)}); id != 0 || e != api.ErrFull {
			t.Errorf("Add to full marks: %d, %d", id, e)
		}
	}
	for _, x := range wrongRanges() {
		if id, e := m.Add(x); id != 0 || e != api.ErrArg {
			t.Errorf("Add(%v) to full marks: %d, %d", x, id, e)
		}
	}
	hold(t, m, known)
	if e := m.Remove(30); e != api.OK {
		t.Fatalf("Remove: %d", e)
	}
	known = slices.Delete(known, 29, 30)
	hold(t, m, known)
	// What was refused has no number.
	if id, e := m.Add(Range{Span: span(7, 8)}); id != api.MaxMarks+1 || e != api.OK {
		t.Errorf("Add with room for one: %d, %d", id, e)
	}
	if id, e := m.Add(Range{Span: span(7, 8)}); id != 0 || e != api.ErrFull {
		t.Errorf("Add to marks that are full again: %d, %d", id, e)
	}
	hold(t, m, append(known, numberedRange{api.MaxMarks + 1, Range{Span: span(7, 8)}}))
}

func TestNumbersAreNeverGivenAgain(t *testing.T) {
	m := of(t, span(0, 1), span(0, 2), span(0, 3))
	for i, id := range []int{3, 1, 2} {
		if e := m.Remove(id); e != api.OK {
			t.Fatalf("Remove(%d): %d", id, e)
		}
		if got, e := m.Add(Range{Span: span(5, 6)}); got != 4+i || e != api.OK {
			t.Fatalf("Add behind a removal: %d, %d", got, e)
		}
	}
	for _, id := range []int{4, 5, 6} {
		if e := m.Remove(id); e != api.OK {
			t.Fatalf("Remove(%d): %d", id, e)
		}
	}
	hold(t, m, nil)
	if id, e := m.Add(Range{}); id != 7 || e != api.OK {
		t.Errorf("Add behind the removal of all: %d, %d", id, e)
	}
	for round := range 300 {
		if e := m.Remove(7 + round); e != api.OK {
			t.Fatalf("Remove(%d): %d", 7+round, e)
		}
		if id, e := m.Add(Range{}); id != 8+round || e != api.OK {
			t.Fatalf("Add: %d, %d", id, e)
		}
	}
}

func TestRemoveAnyOfThem(t *testing.T) {
	for id := 1; id <= 5; id++ {
		m := New()
		known := add(t, m, Range{Span: span(0, 9)}, Range{Span: span(1, 8), Left: true}, Range{Span: span(2, 7), Right: true}, Range{Span: span(3, 6)}, Range{Span: span(4, 5)})
		if e := m.Remove(id); e != api.OK {
			t.Fatalf("Remove(%d): %d", id, e)
		}
		known = slices.Delete(known, id-1, id)
		holdNone(t, m, id)
		hold(t, m, known)
		holdAsked(t, m, known, 10)
	}
}

func TestNumbersWithoutRanges(t *testing.T) {
	m := New()
	known := add(t, m, Range{Span: span(2, 4)}, Range{Span: span(0, 9)}, Range{Span: span(3, 3)})
	if e := m.Remove(2); e != api.OK {
		t.Fatalf("Remove: %d", e)
	}
	known = slices.Delete(known, 1, 2)
	for _, id := range append(noNumbers(3), 2) {
		holdNone(t, m, id)
	}
	hold(t, m, known)
}

func TestEditMovesAllRanges(t *testing.T) {
	smallEdits(6, 3, func(e api.Edit) {
		m := New()
		var known []numberedRange
		smallRanges(3, func(x Range) {
			x.From, x.To = x.From+1, x.To+2
			known = append(known, add(t, m, x)...)
		})
		if errno := m.Edit(e); errno != api.OK {
			t.Fatalf("Edit %d-%d+%d: %d", e.At, e.Del, len(e.Ins), errno)
		}
		for i := range known {
			known[i].x = movedByWords(known[i].x, e)
		}
		hold(t, m, known)
		holdAsked(t, m, known, 9)
	})
}

func TestEditWithoutEffect(t *testing.T) {
	m := New()
	known := add(t, m, Range{Span: span(2, 4)}, Range{Span: span(0, greatest)}, Range{Span: span(9, 9), Left: true})
	for _, e := range []api.Edit{{}, edit(3, 0, 0), edit(greatest, 0, 0)} {
		if errno := m.Edit(e); errno != api.OK {
			t.Errorf("Edit %d-%d+%d: %d", e.At, e.Del, len(e.Ins), errno)
		}
		hold(t, m, known)
	}
}

func TestWrongEditsMoveNothing(t *testing.T) {
	m := New()
	known := add(t, m, Range{Span: span(2, 4)}, Range{Span: span(0, greatest), Right: true}, Range{Span: span(3, 3), Left: true})
	empty := New()
	for _, e := range wrongEdits() {
		for _, m := range []*Marks{m, empty} {
			if errno := m.Edit(e); errno != api.ErrArg {
				t.Errorf("Edit %d-%d+%d: %d", e.At, e.Del, len(e.Ins), errno)
			}
		}
	}
	hold(t, m, known)
	hold(t, empty, nil)
}

func TestEditUpToTheGreatestPlace(t *testing.T) {
	for _, c := range []struct {
		x    Range
		e    api.Edit
		want api.Span
	}{
		{Range{Span: span(3, greatest-2)}, edit(0, 0, 2), span(5, greatest)},
		{Range{Span: span(greatest-2, greatest-2)}, edit(0, 0, 2), span(greatest, greatest)},
		{Range{Span: span(3, greatest-2), Right: true}, edit(greatest-2, 0, 2), span(3, greatest)},
		{Range{Span: span(greatest-2, greatest-2)}, edit(greatest-2, 0, 2), span(greatest, greatest)},
		{Range{Span: span(3, greatest), Right: true}, edit(greatest-2, 2, 2), span(3, greatest)},
		{Range{Span: span(3, greatest)}, edit(5, 2, 2), span(3, greatest)},
		{Range{Span: span(3, greatest)}, edit(greatest, 0, 9), span(3, greatest)},
		{Range{Span: span(greatest, greatest), Left: true}, edit(greatest, 0, 9), span(greatest, greatest)},
		{Range{Span: span(3, greatest)}, edit(0, greatest, 2), span(2, 2)},
		{Range{Span: span(3, greatest)}, edit(greatest, 0, 0), span(3, greatest)},
	} {
		m := New()
		known := add(t, m, c.x)
		if errno := m.Edit(c.e); errno != api.OK {
			t.Errorf("Edit %d-%d+%d of %v: %d", c.e.At, c.e.Del, len(c.e.Ins), c.x, errno)
		}
		known[0].x.Span = c.want
		hold(t, m, known)
	}
}

func TestEditBeyondTheGreatestPlace(t *testing.T) {
	for _, c := range []struct {
		x Range
		e api.Edit
	}{
		{Range{Span: span(3, greatest)}, edit(0, 0, 1)},
		{Range{Span: span(3, greatest-2)}, edit(0, 0, 3)},
		{Range{Span: span(3, greatest-2)}, edit(1, 2, 5)},
		{Range{Span: span(3, greatest-2), Right: true}, edit(greatest-2, 0, 3)},
		{Range{Span: span(3, greatest), Right: true}, edit(greatest, 0, 1)},
		{Range{Span: span(3, greatest), Right: true}, edit(greatest-2, 2, 3)},
		{Range{Span: span(greatest, greatest)}, edit(greatest, 0, 1)},
		{Range{Span: span(greatest, greatest)}, edit(0, 0, 1)},
		{Range{Span: span(greatest, greatest), Left: true, Right: true}, edit(greatest, 0, 1)},
		{Range{Span: span(greatest-2, greatest-2)}, edit(greatest-2, 2, 3)},
	} {
		// Wherever it is among the others, none of them moves.
		for i := range 3 {
			ranges := slices.Insert([]Range{{Span: span(0, 6), Right: true}, {Span: span(2, 2), Left: true}}, i, c.x)
			m := New()
			known := add(t, m, ranges...)
			if errno := m.Edit(c.e); errno != api.ErrArg {
				t.Errorf("Edit %d-%d+%d of %v: %d", c.e.At, c.e.Del, len(c.e.Ins), c.x, errno)
			}
			hold(t, m, known)
			if errno := m.Remove(i + 1); errno != api.OK {
				t.Fatalf("Remove: %d", errno)
			}
			if errno := m.Edit(c.e); errno != api.OK {
				t.Errorf("Edit %d-%d+%d without %v: %d", c.e.At, c.e.Del, len(c.e.Ins), c.x, errno)
			}
		}
	}
}

// P4.3

func TestAllInIncreasingOrder(t *testing.T) {
	m := of(t, span(8, 9), span(0, 9), span(5, 6), span(5, 6), span(1, 1))
	if l := m.All(); !slices.Equal(l, []int{1, 2, 3, 4, 5}) {
		t.Errorf("All: %v", l)
	}
	if m.Remove(2) != api.OK || m.Remove(5) != api.OK {
		t.Fatal("Remove")
	}
	add(t, m, Range{})
	if l := m.All(); !slices.Equal(l, []int{1, 3, 4, 6}) {
		t.Errorf("All behind removals: %v", l)
	}
}

func TestStabAtEdges(t *testing.T) {
	m := of(t, span(7, 9), span(2, 4), span(4, 7), span(4, 4), span(0, greatest))
	for _, c := range []struct {
		at   int
		want []int
	}{
		{math.MinInt, nil}, {-1, nil}, {0, []int{5}}, {1, []int{5}}, {2, []int{2, 5}}, {3, []int{2, 5}}, {4, []int{3, 5}}, {6, []int{3, 5}},
		{7, []int{1, 5}}, {8, []int{1, 5}}, {9, []int{5}}, {greatest - 1, []int{5}}, {greatest, nil}, {greatest + 1, nil}, {math.MaxInt, nil},
	} {
		if got := m.Stab(c.at); !slices.Equal(got, c.want) {
			t.Errorf("Stab(%d): %v, want %v", c.at, got, c.want)
		}
	}
}

func TestOverAtEdges(t *testing.T) {
	m := of(t, span(7, 9), span(2, 4), span(4, 7), span(4, 4), span(5, 5))
	for _, c := range []struct {
		s    api.Span
		want []int
	}{
		{span(0, 2), nil}, {span(0, 3), []int{2}}, {span(3, 5), []int{2, 3, 4}}, {span(4, 7), []int{3, 5}}, {span(4, 8), []int{1, 3, 5}}, {span(0, 4), []int{2}},
		{span(9, 12), nil}, {span(8, 12), []int{1}}, {span(0, 12), []int{1, 2, 3, 4, 5}}, {span(4, 5), []int{3}}, {span(5, 6), []int{3}},
		{span(3, 3), []int{2}}, {span(4, 4), nil}, {span(2, 2), nil}, {span(5, 5), []int{3}}, {span(6, 6), []int{3}}, {span(7, 7), nil}, {span(12, 12), nil},
		{span(-5, 3), []int{2}}, {span(-5, -2), nil}, {span(-1, 0), nil}, {span(math.MinInt, math.MaxInt), []int{1, 2, 3, 4, 5}}, {span(math.MaxInt, math.MaxInt), nil}, {span(math.MinInt, math.MinInt), nil},
	} {
		if got := m.Over(c.s); !slices.Equal(got, c.want) {
			t.Errorf("Over(%d, %d): %v, want %v", c.s.From, c.s.To, got, c.want)
		}
	}
}

// The words on two ranges that overlap are taken as they stand where the span
// itself would be no range.
func TestOverSpansThatAreNoRanges(t *testing.T) {
	m := of(t, span(2, 9), span(2, 4), span(5, 9), span(4, 4))
	for _, c := range []struct {
		s    api.Span
		want []int
	}{
		{span(5, 3), []int{1}}, {span(3, 1), nil}, {span(9, 3), nil}, {span(8, 3), []int{1}}, {span(8, 2), nil}, {span(3, 2), nil}, {span(8, 6), []int{1, 3}}, {span(3, -7), nil}, {span(math.MaxInt, math.MinInt), nil},
	} {
		if got := m.Over(c.s); !slices.Equal(got, c.want) {
			t.Errorf("Over(%d, %d): %v, want %v", c.s.From, c.s.To, got, c.want)
		}
	}
}

func TestParents(t *testing.T) {
	for _, c := range []struct {
		about string
		spans []api.Span
		want  []int
	}{
		{"alone", []api.Span{span(2, 4)}, []int{0}},
		{"alone and empty", []api.Span{span(2, 2)}, []int{0}},
		{"apart", []api.Span{span(0, 2), span(5, 7)}, []int{0, 0}},
		{"touching", []api.Span{span(0, 2), span(2, 4)}, []int{0, 0}},
		{"overlapping", []api.Span{span(0, 3), span(2, 5)}, []int{0, 0}},
		{"one around another", []api.Span{span(0, 9), span(2, 4)}, []int{0, 1}},
		{"one in a later one", []api.Span{span(2, 4), span(0, 9)}, []int{2, 0}},
		{"with the same From", []api.Span{span(2, 9), span(2, 4)}, []int{0, 1}},
		{"with the same To", []api.Span{span(5, 9), span(2, 9)}, []int{2, 0}},
		{"equal", []api.Span{span(2, 4), span(2, 4), span(2, 4)}, []int{0, 1, 2}},
		{"equal and empty", []api.Span{span(3, 3), span(3, 3)}, []int{0, 1}},
		{"in equal ones", []api.Span{span(2, 8), span(3, 4), span(2, 8)}, []int{0, 3, 1}},
		{"in a shorter one", []api.Span{span(0, 9), span(4, 5), span(3, 7), span(2, 8)}, []int{0, 3, 4, 1}},
		{"shorter, but with a lesser From", []api.Span{span(2, 6), span(3, 8), span(4, 5)}, []int{0, 0, 1}},
		{"equally long, the greater From last", []api.Span{span(0, 6), span(2, 8), span(3, 5)}, []int{0, 0, 2}},
		{"equally long, the greater From first", []api.Span{span(2, 8), span(0, 6), span(3, 5)}, []int{0, 0, 1}},
		{"equally long, and equal", []api.Span{span(2, 8), span(2, 8), span(0, 6), span(3, 5)}, []int{0, 1, 0, 2}},
		{"empty where two touch", []api.Span{span(0, 3), span(3, 6), span(3, 3)}, []int{0, 0, 2}},
		{"empty where a long one begins", []api.Span{span(1, 3), span(3, 9), span(3, 3)}, []int{0, 0, 1}},
		{"empty at an end", []api.Span{span(4, 6), span(6, 6), span(4, 4)}, []int{0, 1, 1}},
		{"empty beside one", []api.Span{span(4, 6), span(7, 7), span(3, 3)}, []int{0, 0, 0}},
		{"up to the greatest place", []api.Span{span(0, greatest), span(greatest, greatest), span(0, 0)}, []int{0, 1, 1}},
	} {
		m := of(t, c.spans...)
		for i, want := range c.want {
			if got, e := m.Parent(i + 1); got != want || e != api.OK {
				t.Errorf("%s: Parent(%d): %d, %d, want %d", c.about, i+1, got, e, want)
			}
		}
	}
}

func TestParentsBehindRemovals(t *testing.T) {
	m := of(t, span(0, 9), span(2, 8), span(2, 8), span(3, 4))
	for _, c := range []struct{ removed, want int }{{3, 2}, {2, 1}, {1, 0}} {
		if e := m.Remove(c.removed); e != api.OK {
			t.Fatalf("Remove(%d): %d", c.removed, e)
		}
		if got, e := m.Parent(4); got != c.want || e != api.OK {
			t.Errorf("Parent(4) without %d: %d, %d, want %d", c.removed, got, e, c.want)
		}
	}
}

// Equal ranges need not stick at the same ends.
func TestParentsOfEqualRangesWithOtherEnds(t *testing.T) {
	m := New()
	for _, x := range sticking(span(2, 4)) {
		add(t, m, x)
	}
	for id := 1; id <= 4; id++ {
		if got, e := m.Parent(id); got != id-1 || e != api.OK {
			t.Errorf("Parent(%d): %d, %d", id, got, e)
		}
	}
}

func TestAskedAgainstTheWords(t *testing.T) {
	const last = 4
	var all []Range
	smallRanges(last, func(x Range) {
		if x.Left == x.Right {
			all = append(all, x)
		}
	})
	for _, a := range all {
		for _, b := range all {
			for _, c := range all {
				m := New()
				known := add(t, m, a, b, c)
				holdAsked(t, m, known, last)
			}
		}
	}
}

// P4.4

func TestNilMarks(t *testing.T) {
	var m *Marks
	for range 2 {
		for _, s := range []api.Span{span(0, 0), span(2, 4), span(0, greatest)} {
			for _, x := range sticking(s) {
				if id, e := m.Add(x); id != 0 || e != api.ErrFull {
					t.Errorf("Add(%v): %d, %d", x, id, e)
				}
			}
		}
		for _, e := range append(wrongEdits(), edit(0, 0, 0), edit(3, 1, 2), edit(greatest, 0, 1)) {
			if errno := m.Edit(e); errno != api.ErrArg {
				t.Errorf("Edit %d-%d+%d: %d", e.At, e.Del, len(e.Ins), errno)
			}
		}
		for _, id := range append(noNumbers(0), 1) {
			holdNone(t, m, id)
		}
		hold(t, m, nil)
		holdAsked(t, m, nil, 3)
	}
}

// R2: that a range is not valid comes before there being no room.
func TestNilMarksWithWrongRanges(t *testing.T) {
	var m *Marks
	for _, x := range wrongRanges() {
		if id, e := m.Add(x); id != 0 || e != api.ErrArg {
			t.Errorf("Add(%v): %d, %d", x, id, e)
		}
	}
}

// P4.5, and all promises together, call after call

// numbers returns a function that yields the same numbers in each run.
func numbers() func(below int) int {
	state := uint32(1)
	return func(below int) int {
		state = state*1664525 + 1013904223
		return int(state>>8) % below
	}
}

// holdNoCircles holds that each range has a last one above it.
func holdNoCircles(t *testing.T, m *Marks) {
	t.Helper()
	ids := m.All()
	for _, id := range ids {
		above, e := id, api.OK
		for range ids {
			if above != 0 {
				above, e = m.Parent(above)
			}
		}
		if above != 0 || e != api.OK {
			t.Fatalf("the parents of %d form a circle: %d, %d", id, above, e)
		}
	}
}

// holdEnds holds that all ranges have ends that are places, in order.
func holdEnds(t *testing.T, m *Marks) {
	t.Helper()
	for _, id := range m.All() {
		if x, e := m.Get(id); e != api.OK || x.From < 0 || x.From > x.To || x.To > greatest {
			t.Fatalf("Get(%d): %v, %d", id, x, e)
		}
	}
}

func TestManyCallsAgainstTheWords(t *testing.T) {
	next := numbers()
	for _, last := range []int{3, 8, 30} {
		m := New()
		var known []numberedRange
		given := 0
		for range 800 {
			switch from := next(last + 1); next(6) {
			case 0, 1, 2:
				x := sticking(span(from, from+next(last+1-from)))[next(4)]
				id, e := m.Add(x)
				if len(known) == api.MaxMarks {
					if id != 0 || e != api.ErrFull {
						t.Fatalf("Add to full marks: %d, %d", id, e)
					}
					break
				}
				given++
				if id != given || e != api.OK {
					t.Fatalf("Add: %d, %d, want %d", id, e, given)
				}
				known = append(known, numberedRange{id, x})
			case 3:
				if len(known) > 0 {
					i := next(len(known))
					if e := m.Remove(known[i].id); e != api.OK {
						t.Fatalf("Remove(%d): %d", known[i].id, e)
					}
					holdNone(t, m, known[i].id)
					known = slices.Delete(known, i, i+1)
				}
			default:
				e := edit(from, next(3), next(3))
				if errno := m.Edit(e); errno != api.OK {
					t.Fatalf("Edit %d-%d+%d: %d", e.At, e.Del, len(e.Ins), errno)
				}
				for i := range known {
					known[i].x = movedByWords(known[i].x, e)
				}
			}
			hold(t, m, known)
			holdAsked(t, m, known, 6)
			holdEnds(t, m)
			holdNoCircles(t, m)
		}
	}
}

// Ranges that an edit makes equal are in one another by their numbers alone.
func TestParentsOfRangesThatAnEditMakesEqual(t *testing.T) {
	for _, order := range [][]api.Span{
		{span(0, 9), span(1, 8), span(2, 7)}, {span(2, 7), span(1, 8), span(0, 9)}, {span(1, 8), span(0, 9), span(2, 7)},
	} {
		m := of(t, order...)
		if e := m.Edit(edit(0, 9, 3)); e != api.OK {
			t.Fatalf("Edit: %d", e)
		}
		for id := 1; id <= 3; id++ {
			if got, e := m.Parent(id); got != id-1 || e != api.OK {
				t.Errorf("Parent(%d) of %v: %d, %d", id, order, got, e)
			}
		}
		holdNoCircles(t, m)
	}
}

// P0, R3 and R4

func TestArgumentsAreNeitherChangedNorKept(t *testing.T) {
	m := New()
	known := add(t, m, Range{Span: span(2, 4)})
	e := api.Edit{At: 1, Del: 0, Ins: []rune{'a', -1}}
	if errno := m.Edit(e); errno != api.OK {
		t.Fatalf("Edit: %d", errno)
	}
	if _, errno := Move(known[0].x, e); errno != api.OK {
		t.Fatalf("Move: %d", errno)
	}
	if e.At != 1 || e.Del != 0 || !slices.Equal(e.Ins, []rune{'a', -1}) {
		t.Errorf("the edit was changed: %v", e)
	}
	clear(e.Ins)
	known[0].x.Span = span(4, 6)
	hold(t, m, known)
}

func TestResultsAreNewMemory(t *testing.T) {
	m := New()
	known := add(t, m, Range{Span: span(0, 9)}, Range{Span: span(0, 9)}, Range{Span: span(1, 2)})
	for _, ask := range []func() []int{m.All, func() []int { return m.Stab(1) }, func() []int { return m.Over(span(0, 9)) }} {
		first, second := ask(), ask()
		if !slices.Equal(first, []int{1, 2, 3}) || !slices.Equal(second, first) {
			t.Fatalf("%v, then %v", first, second)
		}
		clear(first)
		clear(first[:cap(first)])
		if !slices.Equal(second, []int{1, 2, 3}) || !slices.Equal(ask(), second) {
			t.Errorf("a change of what was returned: %v", ask())
		}
	}
	x, _ := m.Get(1)
	x.From, x.Left = 5, true
	hold(t, m, known)
}

func TestAskingChangesNothing(t *testing.T) {
	m := New()
	known := add(t, m, Range{Span: span(0, 9)}, Range{Span: span(2, 4), Left: true})
	for range 3 {
		holdAsked(t, m, known, 10)
		holdNone(t, m, 3)
		hold(t, m, known)
	}
	if id, e := m.Add(Range{}); id != 3 || e != api.OK {
		t.Errorf("Add: %d, %d", id, e)
	}
}
