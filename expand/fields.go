package expand

import (
	"slices"

	"stylus/api"
	"stylus/transform"
)

// write returns the expansion, and the spans of the stops in it.
func (p *plan) write() ([]rune, []api.Span) {
	var d draft
	spans := make([]api.Span, len(p.stops))
	var put func(l []piece)
	put = func(l []piece) {
		for _, x := range l {
			if x.stop == none {
				d.put(x.text())
				continue
			}
			from := len(d)
			if p.isPrimary(x.stop) {
				put(p.stops[x.stop].pieces)
			} else {
				d.put(x.text())
			}
			spans[x.stop] = api.Span{From: from, To: len(d)}
		}
	}
	put(p.pieces)
	return d, spans
}

// size returns how many fields there are.
func (p *plan) size() int {
	if p.hasLast() {
		return len(p.stops)
	}
	return len(p.stops) + 1
}

// hasLast reports whether there is a stop with the number 0.
func (p *plan) hasLast() bool {
	_, is := p.primary[0]
	return is
}

// fields returns the fields of an expansion.
func (p *plan) fields(spans []api.Span, end int) []Field {
	l := make([]Field, 0, p.size())
	for i, x := range p.stops {
		l = append(l, Field{
			N:       x.N,
			Span:    spans[i],
			Up:      x.up,
			Primary: p.isPrimary(i),
			Choices: copied(x.Choices),
			Turn:    x.Turn,
			T: transform.Transform{
				Pattern: slices.Clone(x.T.Pattern),
				Format:  slices.Clone(x.T.Format),
				All:     x.T.All,
				Fold:    x.T.Fold,
			},
		})
	}
	if !p.hasLast() {
		l = append(l, Field{Span: api.Span{From: end, To: end}, Up: none, Primary: true})
	}
	return l
}

func copied(l [][]rune) [][]rune {
	var c [][]rune
	for _, t := range l {
		c = append(c, slices.Clone(t))
	}
	return c
}
