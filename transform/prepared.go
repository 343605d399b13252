package transform

import (
	"stylus/api"
	"stylus/format"
	"stylus/pattern"
	"stylus/pike"
)

// finder is a pattern that is ready to be searched for.
type finder struct {
	list []pike.Inst
	fold bool
}

// find returns the spans of the groups of what is found first, from a place on.
func (f finder) find(s []rune, from int) ([]api.Span, bool) {
	return pike.Run(f.list, s, from, f.fold)
}

// prepared is a transform that is ready to be applied.
type prepared struct {
	finder
	items []format.Item
	all   bool
}

// prepare returns a transform that is ready, or its first error.
func prepare(t Transform) (prepared, api.Errno) {
	node, _, _, e := pattern.Parse(t.Pattern)
	if e != api.OK {
		return prepared{}, e
	}
	list, e := pike.Compile(node)
	if e != api.OK {
		return prepared{}, e
	}
	items, _, e := format.Parse(t.Format)
	if e != api.OK {
		return prepared{}, e
	}
	return prepared{finder{list, t.Fold}, items, t.All}, api.OK
}

// apply returns a text, transformed. It ends once the result is full, since all
// that comes later would be cut off.
func (p prepared) apply(s []rune) []rune {
	var r result
	from := 0 // where the search continues
	rest := 0 // where begins what is not in the result yet
	for !r.full() {
		groups, is := p.find(s, from)
		if !is {
			break
		}
		whole := groups[0]
		r.put(s[rest:whole.From])
		r.put(format.Fill(p.items, texts(s, groups)))
		from, rest = after(whole), whole.To
		if !p.all {
			break
		}
	}
	r.put(s[rest:])
	return r
}

// after returns where a search continues after what was found. That may be
// beyond the end of the text, where nothing is found any more.
func after(found api.Span) int {
	if found.From == found.To {
		return found.To + 1
	}
	return found.To
}

// texts returns the texts of groups, and nil for those that are not set. No
// text is longer than a result: a format may have it a hundred times and more.
func texts(s []rune, groups []api.Span) [][]rune {
	l := make([][]rune, len(groups))
	for i, g := range groups {
		if g.From >= 0 {
			l[i] = s[g.From:min(g.To, g.From+api.MaxText)]
		}
	}
	return l
}

// result is a text that takes as many runes as a text may have.
type result []rune

func (r result) full() bool {
	return len(r) == api.MaxText
}

// put appends a text, as far as there is room.
func (r *result) put(t []rune) {
	room := api.MaxText - len(*r)
	*r = append(*r, t[:min(room, len(t))]...)
}
