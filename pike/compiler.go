package pike

import (
	"slices"

	"stylus/api"
	"stylus/pattern"
)

// valid tells whether a node can be compiled, whatever the number of its
// instructions is.
func valid(n pattern.Node) bool {
	ok := true
	switch n.Kind {
	case pattern.Char, pattern.Set, pattern.Begin, pattern.End:
		return true // their Subs do not count
	case pattern.Group:
		ok = len(n.Subs) == 1 && within(n.N, 0, groups-1)
	case pattern.Cat:
	case pattern.Alt:
		ok = len(n.Subs) > 0
	case pattern.Rep:
		ok = len(n.Subs) == 1 && within(n.Min, 0, 9) && (n.Max == -1 || within(n.Max, n.Min, 9))
	default:
		ok = false
	}
	return ok && !slices.ContainsFunc(n.Subs, invalid)
}

func invalid(n pattern.Node) bool {
	return !valid(n)
}

func within(n, least, most int) bool {
	return least <= n && n <= most
}

// compiler lists instructions, as far as there are not too many of them.
type compiler struct {
	list []Inst
}

func (c *compiler) full() bool {
	return len(c.list) > Most
}

// put appends an instruction, and returns its place.
func (c *compiler) put(x Inst) int {
	c.list = append(c.list, x)
	return len(c.list) - 1
}

// node appends the instructions of a node that is valid.
func (c *compiler) node(n pattern.Node) {
	if c.full() { // repeats in repeats would hardly come to an end
		return
	}
	switch n.Kind {
	case pattern.Char:
		c.put(Inst{Kind: One, Spans: []api.Span{{From: n.N, To: n.N}}})
	case pattern.Set:
		c.put(Inst{Kind: One, Not: n.Not, Spans: slices.Clone(n.Set)})
	case pattern.Begin:
		c.put(Inst{Kind: AtBegin})
	case pattern.End:
		c.put(Inst{Kind: AtEnd})
	case pattern.Group:
		c.group(n)
	case pattern.Cat:
		for _, sub := range n.Subs {
			c.node(sub)
		}
	case pattern.Alt:
		c.alt(n.Subs)
	case pattern.Rep:
		c.rep(n)
	}
}

func (c *compiler) group(n pattern.Node) {
	if n.N == 0 {
		c.node(n.Subs[0])
		return
	}
	c.put(Inst{Kind: Mark, N: 2 * n.N})
	c.node(n.Subs[0])
	c.put(Inst{Kind: Mark, N: 2*n.N + 1})
}

func (c *compiler) alt(subs []pattern.Node) {
	var gos []int
	last := len(subs) - 1
	for _, sub := range subs[:last] {
		two := c.put(Inst{Kind: Two})
		c.node(sub)
		gos = append(gos, c.put(Inst{Kind: Go}))
		c.list[two].X, c.list[two].Y = two+1, len(c.list)
	}
	c.node(subs[last])
	for _, g := range gos {
		c.list[g].X = len(c.list)
	}
}

func (c *compiler) rep(n pattern.Node) {
	c.least(n.Subs[0], n.Min)
	if n.Max == -1 {
		c.anyMore(n)
	} else {
		c.atMost(n, n.Max-n.Min)
	}
}

// least appends the instructions of a node so many times. If there are none the
// first time, there are none any more: to look again in each of many repeats in
// one another would hardly come to an end.
func (c *compiler) least(n pattern.Node, times int) {
	for range times {
		before := len(c.list)
		c.node(n)
		if len(c.list) == before {
			return
		}
	}
}

// anyMore appends those of a repeat's Sub as often as one wants.
func (c *compiler) anyMore(n pattern.Node) {
	two := c.put(Inst{Kind: Two})
	c.node(n.Subs[0])
	c.put(Inst{Kind: Go, X: two})
	c.leave(two, n.Lazy)
}

// atMost appends those of a repeat's Sub so many times, each of which may be
// the place to leave it.
func (c *compiler) atMost(n pattern.Node, times int) {
	var twos []int
	for range times {
		twos = append(twos, c.put(Inst{Kind: Two}))
		c.node(n.Subs[0])
	}
	for _, two := range twos {
		c.leave(two, n.Lazy)
	}
}

// leave gives the Two of a repeat its ways: into the repeat, and out of it to
// the end of the list.
func (c *compiler) leave(two int, lazy bool) {
	x, y := two+1, len(c.list)
	if lazy {
		x, y = y, x
	}
	c.list[two].X, c.list[two].Y = x, y
}
