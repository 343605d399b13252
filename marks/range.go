package marks

import (
	"cmp"

	"stylus/api"
)

// farthest is the greatest place.
const farthest = 1 << 31

// Range is a span with ends that may stick: with Left, what is inserted where
// it begins belongs to it; with Right, what is inserted where it ends does.
type Range struct {
	api.Span
	Left, Right bool
}

// Move returns the range to which x moves, which may go beyond the greatest
// place that x may have.
func Move(x Range, e api.Edit) (Range, api.Errno) {
	if !x.valid() || !validEdit(e) {
		return Range{}, api.ErrArg
	}
	return x.moved(e), api.OK
}

// valid reports whether the ends are places in increasing order.
func (x Range) valid() bool {
	return 0 <= x.From && x.From <= x.To && x.To <= farthest
}

// validEdit reports whether an edit may move ranges.
func validEdit(e api.Edit) bool {
	// The sum of At and Del might wrap round.
	return e.At >= 0 && e.Del >= 0 && e.At <= farthest && e.Del <= farthest-e.At
}

// moved returns the range to which x moves.
func (x Range) moved(e api.Edit) Range {
	x.From = movedPlace(x.From, e, !x.Left)
	x.To = max(x.From, movedPlace(x.To, e, x.Right))
	return x
}

// movedPlace returns the place to which at moves.
func movedPlace(at int, e api.Edit, high bool) int {
	switch {
	case at < e.At:
		return at
	case at > e.At+e.Del:
		return at + len(e.Ins) - e.Del
	case high:
		return e.At + len(e.Ins)
	}
	return e.At
}

// in reports whether x is in y.
func (x numbered) in(y numbered) bool {
	// Only the spans tell which ranges are equal: two with other ends that
	// stick would otherwise each be in the other one.
	if x.Span == y.Span {
		return x.id > y.id
	}
	return y.From <= x.From && x.To <= y.To
}

// closer reports whether x rather than y is the parent of what is in both.
func (x numbered) closer(y numbered) bool {
	return cmp.Or(
		cmp.Compare(y.To-y.From, x.To-x.From),
		cmp.Compare(x.From, y.From),
		cmp.Compare(x.id, y.id),
	) > 0
}
