package session

import (
	"cmp"
	"slices"

	"stylus/api"
	"stylus/expand"
	"stylus/marks"
	"stylus/transform"
)

// none stands for the index of a field where there is none.
const none = -1

// draft is a session that is edited.
type draft struct {
	State
	models []int // for each field, the one whose text it should have, or none
}

func newDraft(x State) *draft {
	return &draft{x, models(x.Fields)}
}

// models returns for each field the primary of its number, but none for those
// that are it.
func models(l []expand.Field) []int {
	first := map[int]int{}
	for i, f := range l {
		if _, is := first[f.N]; f.Primary && !is {
			first[f.N] = i
		}
	}
	all := make([]int, len(l))
	for i, f := range l {
		p, is := first[f.N]
		if !is || p == i {
			p = none
		}
		all[i] = p
	}
	return all
}

// replacing returns the edit by which a span gets another text.
func replacing(s api.Span, t []rune) api.Edit {
	return api.Edit{At: s.From, Del: s.To - s.From, Ins: t}
}

// edit edits the text, and the fields move with respect to one of them.
// edits.Apply would turn down the runes of a primary that are not valid.
func (d *draft) edit(e api.Edit, about int) api.Errno {
	if len(d.Text)-e.Del+len(e.Ins) > api.MaxText {
		return api.ErrFull
	}
	d.Text = slices.Concat(d.Text[:e.At], e.Ins, d.Text[e.At+e.Del:])
	d.move(e, about)
	return api.OK
}

// move moves the fields. What is above a field comes before it, and has moved
// already when the field asks whether it is still in there.
func (d *draft) move(e api.Edit, about int) {
	sticks := make([]bool, len(d.Fields))
	for i := about; i != none; i = d.Fields[i].Up {
		sticks[i] = true
	}
	for i := range d.Fields {
		f := &d.Fields[i]
		// There is no error: the edit and the span are within the text.
		r, _ := marks.Move(marks.Range{Span: f.Span, Left: sticks[i], Right: sticks[i]}, e)
		f.Span = r.Span
		for f.Up != none && !contains(d.Fields[f.Up].Span, f.Span) {
			f.Up = d.Fields[f.Up].Up
		}
	}
}

// settle visits the fields until they have the texts that they should have. If
// they never come to that, or overlap, the session is over.
func (d *draft) settle() api.Errno {
visits:
	for range len(d.Fields) + 2 {
		switch replaced, err := d.visit(); {
		case err != api.OK:
			return err
		case !replaced:
			break visits
		}
	}
	if !d.agree() || cross(d.Fields) {
		d.Fields, d.Active = nil, 0
	}
	return api.OK
}

// visit visits each field, and returns whether some text was replaced.
func (d *draft) visit() (bool, api.Errno) {
	replaced := false
	for i := range d.Fields {
		t := d.wanted(i)
		if slices.Equal(t, d.text(i)) {
			continue
		}
		if err := d.edit(replacing(d.Fields[i].Span, t), i); err != api.OK {
			return false, err
		}
		replaced = true
	}
	return replaced, api.OK
}

// agree reports whether all fields have the texts that they should have.
func (d *draft) agree() bool {
	for i := range d.Fields {
		if !slices.Equal(d.wanted(i), d.text(i)) {
			return false
		}
	}
	return true
}

// wanted returns the text that a field should have: its own one, if there is
// no other field that it follows.
func (d *draft) wanted(i int) []rune {
	if d.models[i] == none {
		return d.text(i)
	}
	t := d.text(d.models[i])
	if d.Fields[i].Turn {
		t, _ = transform.Apply(d.Fields[i].T, t)
	}
	return t
}

// text returns the text of a field.
func (d *draft) text(i int) []rune {
	s := d.Fields[i].Span
	return d.Text[s.From:s.To]
}

// contains reports whether a span has another one within it.
func contains(outer, inner api.Span) bool {
	return outer.From <= inner.From && inner.To <= outer.To
}

// cross reports whether two fields are neither disjoint nor one in the other.
func cross(l []expand.Field) bool {
	var spans []api.Span
	for _, f := range l {
		spans = append(spans, f.Span)
	}
	slices.SortFunc(spans, func(a, b api.Span) int {
		return cmp.Or(cmp.Compare(a.From, b.From), cmp.Compare(b.To, a.To))
	})
	var around []int // where those end that the next one may be in, the innermost one last
	for _, s := range spans {
		for len(around) > 0 && around[len(around)-1] <= s.From {
			around = around[:len(around)-1]
		}
		if len(around) > 0 && around[len(around)-1] < s.To {
			return true
		}
		around = append(around, s.To)
	}
	return false
}
