package marks

import (
	"math"
	"slices"
	"testing"

	"stylus/api"
)

// greatest is 2^31, the greatest place.
const greatest = 2147483648

func span(from, to int) api.Span {
	return api.Span{From: from, To: to}
}

// edit inserts so many runes in place of others.
func edit(at, del, ins int) api.Edit {
	return api.Edit{At: at, Del: del, Ins: make([]rune, ins)}
}

// sticking returns a span with each combination of ends that stick: none,
// Left, Right, both.
func sticking(s api.Span) [4]Range {
	return [4]Range{{s, false, false}, {s, true, false}, {s, false, true}, {s, true, true}}
}

// inserted stands for each rune that an edit inserts.
const inserted = -1

// movedInText tells where a place moves by what it is between in a text: a
// place before the edit stays before the rune that follows it, a place beyond
// the edit stays behind the rune that precedes it, and the others go to an end
// of what was inserted.
func movedInText(at int, e api.Edit, high bool) int {
	text := make([]int, max(at, e.At+e.Del)+1)
	for i := range text {
		text[i] = i
	}
	after := slices.Replace(slices.Clone(text), e.At, e.At+e.Del, slices.Repeat([]int{inserted}, len(e.Ins))...)
	if at < e.At {
		return slices.Index(after, at)
	}
	if at > e.At+e.Del {
		return slices.Index(after, at-1) + 1
	}
	if high {
		return e.At + len(e.Ins)
	}
	return e.At
}

// movedByWords follows the words of the chapter on a range that moves.
func movedByWords(x Range, e api.Edit) Range {
	from := movedInText(x.From, e, true)
	if x.Left {
		from = movedInText(x.From, e, false)
	}
	to := movedInText(x.To, e, false)
	if x.Right {
		to = movedInText(x.To, e, true)
	}
	if to < from {
		to = from
	}
	return Range{span(from, to), x.Left, x.Right}
}

// smallRanges calls f for all ranges up to a place, with all ends that stick.
func smallRanges(last int, f func(x Range)) {
	for from := range last + 1 {
		for to := from; to <= last; to++ {
			for _, x := range sticking(span(from, to)) {
				f(x)
			}
		}
	}
}

// smallEdits calls f for all edits up to a place.
func smallEdits(last, most int, f func(e api.Edit)) {
	for at := range last + 1 {
		for del := range last + 1 - at {
			for ins := range most + 1 {
				f(edit(at, del, ins))
			}
		}
	}
}

// wrongRanges are not valid.
func wrongRanges() []Range {
	var l []Range
	for _, s := range []api.Span{
		span(-1, 0), span(-1, -1), span(-1, 5), span(-5, -2), span(math.MinInt, 0), span(math.MinInt, math.MinInt),
		span(math.MinInt, math.MaxInt), span(math.MinInt32, 7), span(-greatest, greatest),
		span(1, 0), span(5, 4), span(5, -5), span(0, -1), span(0, math.MinInt), span(greatest, 0), span(greatest, greatest-1),
		span(greatest+1, greatest), span(math.MaxInt, 0), span(math.MaxInt, math.MaxInt-1), span(math.MaxInt, math.MinInt),
		span(0, greatest+1), span(greatest, greatest+1), span(greatest+1, greatest+1), span(0, math.MaxInt), span(math.MaxInt, math.MaxInt),
		span(0, 2*greatest), span(0, 2*greatest+1),
	} {
		x := sticking(s)
		l = append(l, x[:]...)
	}
	return l
}

// wrongEdits are not valid.
func wrongEdits() []api.Edit {
	var l []api.Edit
	for _, e := range [][2]int{
		{-1, 0}, {-1, 1}, {-1, 2}, {-5, 3}, {-1, greatest}, {-greatest, greatest}, {math.MinInt, 0}, {math.MinInt, math.MaxInt}, {math.MinInt, math.MinInt},
		{0, -1}, {1, -1}, {5, -2}, {greatest, -1}, {greatest, -greatest}, {0, math.MinInt}, {math.MaxInt, math.MinInt}, {-1, -1},
		{0, greatest + 1}, {1, greatest}, {greatest, 1}, {greatest - 1, 2}, {greatest + 1, 0}, {greatest / 2, greatest/2 + 1},
		{math.MaxInt, 0}, {0, math.MaxInt}, {math.MaxInt, 1}, {1, math.MaxInt}, {math.MaxInt, math.MaxInt}, {math.MaxInt - 1, 2}, {greatest, math.MaxInt}, {math.MaxInt, greatest},
		{2 * greatest, 0}, {0, 2 * greatest}, {greatest, greatest}, {greatest + 1, -1}, {2 * greatest, -2 * greatest},
	} {
		l = append(l, edit(e[0], e[1], 0), edit(e[0], e[1], 3))
	}
	return l
}

func holdMove(t *testing.T, x Range, e api.Edit, want Range) {
	t.Helper()
	if got, errno := Move(x, e); got != want || errno != api.OK {
		t.Errorf("Move(%v) by %d-%d+%d: %v, %d, want %v", x, e.At, e.Del, len(e.Ins), got, errno, want)
	}
}

// P4.1

func TestMoveExamples(t *testing.T) {
	x := Range{Span: span(2, 4), Right: true}
	holdMove(t, x, edit(4, 0, 1), Range{Span: span(2, 5), Right: true})
	holdMove(t, x, edit(2, 0, 1), Range{Span: span(3, 5), Right: true})
}

// Each row has what a range becomes that sticks at no end, with Left, with
// Right, and with both.
func TestMoveBySides(t *testing.T) {
	for _, c := range []struct {
		about string
		x     api.Span
		e     api.Edit
		want  [4]api.Span
	}{
		{"inserted before", span(4, 8), edit(3, 0, 2), [4]api.Span{span(6, 10), span(6, 10), span(6, 10), span(6, 10)}},
		{"inserted where it begins", span(4, 8), edit(4, 0, 2), [4]api.Span{span(6, 10), span(4, 10), span(6, 10), span(4, 10)}},
		{"inserted inside", span(4, 8), edit(5, 0, 2), [4]api.Span{span(4, 10), span(4, 10), span(4, 10), span(4, 10)}},
		{"inserted where it ends", span(4, 8), edit(8, 0, 2), [4]api.Span{span(4, 8), span(4, 8), span(4, 10), span(4, 10)}},
		{"inserted behind", span(4, 8), edit(9, 0, 2), [4]api.Span{span(4, 8), span(4, 8), span(4, 8), span(4, 8)}},
		{"inserted where it is empty", span(4, 4), edit(4, 0, 2), [4]api.Span{span(6, 6), span(4, 4), span(6, 6), span(4, 6)}},
		{"nothing at all", span(4, 8), edit(4, 0, 0), [4]api.Span{span(4, 8), span(4, 8), span(4, 8), span(4, 8)}},

		{"removed before", span(4, 8), edit(1, 2, 0), [4]api.Span{span(2, 6), span(2, 6), span(2, 6), span(2, 6)}},
		{"replaced before", span(4, 8), edit(1, 2, 5), [4]api.Span{span(7, 11), span(7, 11), span(7, 11), span(7, 11)}},
		{"removed up to where it begins", span(4, 8), edit(2, 2, 0), [4]api.Span{span(2, 6), span(2, 6), span(2, 6), span(2, 6)}},
		{"replaced up to where it begins", span(4, 8), edit(2, 2, 1), [4]api.Span{span(3, 7), span(2, 7), span(3, 7), span(2, 7)}},
		{"replaced around where it begins", span(4, 8), edit(3, 3, 1), [4]api.Span{span(4, 6), span(3, 6), span(4, 6), span(3, 6)}},
		{"replaced from where it begins", span(4, 8), edit(4, 2, 3), [4]api.Span{span(7, 9), span(4, 9), span(7, 9), span(4, 9)}},
		{"replaced inside", span(4, 8), edit(5, 2, 1), [4]api.Span{span(4, 7), span(4, 7), span(4, 7), span(4, 7)}},
		{"replaced whole", span(4, 8), edit(4, 4, 3), [4]api.Span{span(7, 7), span(4, 4), span(7, 7), span(4, 7)}},
		{"removed whole", span(4, 8), edit(4, 4, 0), [4]api.Span{span(4, 4), span(4, 4), span(4, 4), span(4, 4)}},
		{"replaced around it", span(4, 8), edit(3, 6, 2), [4]api.Span{span(5, 5), span(3, 3), span(5, 5), span(3, 5)}},
		{"removed around it", span(4, 8), edit(3, 6, 0), [4]api.Span{span(3, 3), span(3, 3), span(3, 3), span(3, 3)}},
		{"replaced up to where it ends", span(4, 8), edit(6, 2, 3), [4]api.Span{span(4, 6), span(4, 6), span(4, 9), span(4, 9)}},
		{"replaced around where it ends", span(4, 8), edit(6, 5, 1), [4]api.Span{span(4, 6), span(4, 6), span(4, 7), span(4, 7)}},
		{"replaced from where it ends", span(4, 8), edit(8, 2, 1), [4]api.Span{span(4, 8), span(4, 8), span(4, 9), span(4, 9)}},
		{"replaced behind", span(4, 8), edit(9, 2, 1), [4]api.Span{span(4, 8), span(4, 8), span(4, 8), span(4, 8)}},
		{"replaced where it is empty", span(4, 4), edit(3, 2, 4), [4]api.Span{span(7, 7), span(3, 3), span(7, 7), span(3, 7)}},
		{"removed up to where it is empty", span(4, 4), edit(1, 3, 0), [4]api.Span{span(1, 1), span(1, 1), span(1, 1), span(1, 1)}},

		{"at the first place", span(0, 0), edit(0, 0, 1), [4]api.Span{span(1, 1), span(0, 0), span(1, 1), span(0, 1)}},
		{"from the first place", span(0, 3), edit(0, 3, 1), [4]api.Span{span(1, 1), span(0, 0), span(1, 1), span(0, 1)}},
	} {
		for i, x := range sticking(c.x) {
			want := sticking(c.want[i])[i]
			if got, errno := Move(x, c.e); got != want || errno != api.OK {
				t.Errorf("%s: Move(%v): %v, %d, want %v", c.about, x, got, errno, want)
			}
		}
	}
}

func TestMoveAgainstAText(t *testing.T) {
	smallRanges(7, func(x Range) {
		smallEdits(7, 4, func(e api.Edit) {
			holdMove(t, x, e, movedByWords(x, e))
		})
	})
}

func TestMoveReadsNoRunes(t *testing.T) {
	for _, ins := range [][]rune{{'a', 'b'}, {0, 0}, {-1, math.MinInt32}, {0x301, 0x4E2D}, {math.MaxInt32, 55296}, {10, 27}} {
		holdMove(t, Range{Span: span(1, 3)}, api.Edit{At: 0, Del: 1, Ins: ins}, Range{Span: span(2, 4)})
	}
	for _, ins := range [][]rune{nil, {}} {
		holdMove(t, Range{Span: span(1, 3)}, api.Edit{At: 0, Del: 1, Ins: ins}, Range{Span: span(0, 2)})
	}
}

func TestMoveAtTheGreatestPlace(t *testing.T) {
	for _, c := range []struct {
		x    api.Span
		e    api.Edit
		want [4]api.Span
	}{
		{span(0, greatest), edit(0, 0, 0), [4]api.Span{span(0, greatest), span(0, greatest), span(0, greatest), span(0, greatest)}},
		{span(greatest, greatest), edit(0, 1, 0), [4]api.Span{span(greatest-1, greatest-1), span(greatest-1, greatest-1), span(greatest-1, greatest-1), span(greatest-1, greatest-1)}},
		{span(3, greatest), edit(0, greatest, 2), [4]api.Span{span(2, 2), span(0, 0), span(2, 2), span(0, 2)}},
		{span(3, 9), edit(greatest, 0, 2), [4]api.Span{span(3, 9), span(3, 9), span(3, 9), span(3, 9)}},
		{span(3, 9), edit(greatest-5, 5, 2), [4]api.Span{span(3, 9), span(3, 9), span(3, 9), span(3, 9)}},
		{span(3, greatest), edit(greatest-5, 5, 0), [4]api.Span{span(3, greatest-5), span(3, greatest-5), span(3, greatest-5), span(3, greatest-5)}},
		{span(3, greatest), edit(9, greatest-9, 1), [4]api.Span{span(3, 9), span(3, 9), span(3, 10), span(3, 10)}},
		// Only Marks asks that no range goes beyond the greatest place.
		{span(3, greatest), edit(9, 0, 1), [4]api.Span{span(3, greatest+1), span(3, greatest+1), span(3, greatest+1), span(3, greatest+1)}},
		{span(greatest, greatest), edit(greatest, 0, 3), [4]api.Span{span(greatest+3, greatest+3), span(greatest, greatest), span(greatest+3, greatest+3), span(greatest, greatest+3)}},
	} {
		for i, x := range sticking(c.x) {
			holdMove(t, x, c.e, sticking(c.want[i])[i])
		}
	}
}

func TestMoveWrongRanges(t *testing.T) {
	for _, x := range wrongRanges() {
		for _, e := range append(wrongEdits(), edit(0, 0, 0), edit(3, 1, 2), edit(0, greatest, 0), edit(greatest, 0, 1)) {
			if got, errno := Move(x, e); got != (Range{}) || errno != api.ErrArg {
				t.Errorf("Move(%v) by %d-%d+%d: %v, %d", x, e.At, e.Del, len(e.Ins), got, errno)
			}
		}
	}
}

func TestMoveByWrongEdits(t *testing.T) {
	for _, e := range wrongEdits() {
		for _, s := range []api.Span{span(0, 0), span(2, 4), span(0, greatest), span(greatest, greatest)} {
			for _, x := range sticking(s) {
				if got, errno := Move(x, e); got != (Range{}) || errno != api.ErrArg {
					t.Errorf("Move(%v) by %d-%d+%d: %v, %d", x, e.At, e.Del, len(e.Ins), got, errno)
				}
			}
		}
	}
}

// P4.5

func TestEndsNeverChangePlaces(t *testing.T) {
	smallRanges(6, func(x Range) {
		smallEdits(6, 3, func(e api.Edit) {
			got, _ := Move(x, e)
			if got.From < 0 || got.From > got.To {
				t.Errorf("Move(%v) by %d-%d+%d: %v", x, e.At, e.Del, len(e.Ins), got)
			}
		})
	})
	for _, place := range []int{0, 1, greatest / 2, greatest - 1, greatest} {
		for _, e := range []api.Edit{edit(0, greatest, 5), edit(greatest, 0, 5), edit(1, greatest-2, 5), edit(greatest/2, greatest/2, 5)} {
			for _, x := range append(slices.Clone(wholes(place)), wholes(greatest-place)...) {
				got, errno := Move(x, e)
				if errno != api.OK || got.From < 0 || got.From > got.To {
					t.Errorf("Move(%v) by %d-%d+%d: %v, %d", x, e.At, e.Del, len(e.Ins), got, errno)
				}
			}
		}
	}
}

// wholes returns the ranges that begin or end at a place, and nowhere else
// than at the least or the greatest one.
func wholes(place int) []Range {
	var l []Range
	for _, s := range []api.Span{span(0, place), span(place, place), span(place, greatest)} {
		x := sticking(s)
		l = append(l, x[:]...)
	}
	return l
}
