package expand

import (
	"slices"

	"stylus/snippet"
	"stylus/transform"
)

// none stands for the index of a stop where there is none.
const none = -1

// stop is a Stop or a Choice that is visited.
type stop struct {
	*snippet.Node
	up     int     // the index of the stop in which it is
	pieces []piece // what is visited in it, or its first choice, if its number has its text from there
}

// piece is what is added to a text by a part that is visited. A Var that is not
// set has none of its own: those of its Subs take its place.
type piece struct {
	stop int           // the index of a Stop or a Choice
	text func() []rune // to be called when the texts that it needs are collected
}

// plan is what is visited of a snippet.
type plan struct {
	values  []Value
	pieces  []piece
	stops   []stop         // in the order in which they are visited
	primary map[int]int    // for each number the index of its primary among the stops
	texts   map[int][]rune // the texts of the numbers, when they are collected
}

func newPlan(l []snippet.Node, values []Value) *plan {
	p := &plan{values: values, primary: map[int]int{}, texts: map[int][]rune{}}
	p.pieces = p.visit(l, none, nil)
	return p
}

// visit visits parts that are in a stop, and appends their pieces to those
// before them.
func (p *plan) visit(l []snippet.Node, up int, pieces []piece) []piece {
	for i := range l {
		x := &l[i]
		switch x.Kind {
		case snippet.Text:
			pieces = append(pieces, own(x.Name))
		case snippet.Stop, snippet.Choice:
			pieces = append(pieces, p.stop(x, up))
		case snippet.Var:
			if t, is := p.value(x.Name); is {
				pieces = append(pieces, piece{none, func() []rune { return turned(x, t) }})
			} else {
				pieces = p.visit(x.Subs, up, pieces)
			}
		}
	}
	return pieces
}

// own returns the piece of a text that needs no other one.
func own(t []rune) piece {
	return piece{none, func() []rune { return t }}
}

// stop visits a Stop or a Choice. It is the primary of its number from then on,
// if it suits better than those before it; otherwise its Subs are not visited.
func (p *plan) stop(x *snippet.Node, up int) piece {
	i := len(p.stops)
	p.stops = append(p.stops, stop{Node: x, up: up})
	first, is := p.primary[x.N]
	if !is || rank(x) > rank(p.stops[first].Node) {
		p.primary[x.N] = i
		pieces := p.inside(x, i)
		p.stops[i].pieces = pieces
	}
	return piece{i, func() []rune { return p.shown(i) }}
}

// rank tells how well a Stop or a Choice suits as a primary.
func rank(x *snippet.Node) int {
	switch {
	case x.Kind == snippet.Choice || len(x.Subs) > 0:
		return 2
	case !x.Turn:
		return 1
	}
	return 0
}

// inside returns the pieces of which the text of a primary consists.
func (p *plan) inside(x *snippet.Node, i int) []piece {
	if x.Kind == snippet.Stop {
		return p.visit(x.Subs, i, nil)
	}
	if len(x.Choices) == 0 {
		return nil
	}
	return []piece{own(x.Choices[0])}
}

// value returns the value of a variable, and whether it is set.
func (p *plan) value(name []rune) ([]rune, bool) {
	for _, v := range p.values {
		if slices.Equal(v.Name, name) {
			return v.Text, true
		}
	}
	return nil, false
}

// shown returns the text of a stop.
func (p *plan) shown(i int) []rune {
	x := p.stops[i]
	t := p.texts[x.N]
	if p.isPrimary(i) {
		return t
	}
	return turned(x.Node, t)
}

func (p *plan) isPrimary(i int) bool {
	return p.primary[p.stops[i].N] == i
}

// turned returns a text, transformed if a part has Turn. It is empty if the
// transform is not valid, which that of a part that was parsed always is.
func turned(x *snippet.Node, t []rune) []rune {
	if x.Turn {
		t, _ = transform.Apply(x.T, t)
	}
	return t
}
