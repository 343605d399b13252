package sels

import (
	"cmp"
	"slices"

	"stylus/api"
)

// within returns selections whose places are from 0 to the length.
func within(l []api.Sel, length int) []api.Sel {
	near := func(place int) int { return max(0, min(place, length)) }
	var all []api.Sel
	for _, s := range l {
		all = append(all, api.Sel{Anchor: near(s.Anchor), Head: near(s.Head)})
	}
	return all
}

// ordered sorts selections by where they begin, then by where they end, then
// by their order.
func ordered(l []api.Sel) []api.Sel {
	slices.SortStableFunc(l, func(a, b api.Sel) int {
		x, y := Span(a), Span(b)
		return cmp.Or(cmp.Compare(x.From, y.From), cmp.Compare(x.To, y.To))
	})
	return l
}

// merged returns selections that are ordered, with those merged that touch.
func merged(l []api.Sel) []api.Sel {
	var apart []api.Sel
	for _, s := range l {
		last := len(apart) - 1
		if last >= 0 && Span(s).From <= Span(apart[last]).To {
			apart[last] = join(apart[last], s)
		} else {
			apart = append(apart, s)
		}
	}
	return apart
}

// join returns a and b as one selection. a begins no later than b, so that it
// has the direction already, unless all that was merged into it is empty.
func join(a, b api.Sel) api.Sel {
	from, to := Span(a).From, max(Span(a).To, Span(b).To)
	first := a
	if a.Anchor == a.Head {
		first = b
	}
	if first.Head < first.Anchor {
		return api.Sel{Anchor: to, Head: from}
	}
	return api.Sel{Anchor: from, Head: to}
}
