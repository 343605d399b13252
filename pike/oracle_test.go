package pike

import (
	"slices"

	"stylus/api"
	"stylus/pattern"
)

// What the chapter's words say, followed in another way than in the program:
// nodes are turned into blocks whose places are counted from the instruction
// itself, and instructions are tried one by one, with going back.

// tooMany is more than any number of instructions that is asked for.
const tooMany = 1000000

// size is the number of a node's instructions, or tooMany.
func size(n pattern.Node) int {
	sum := 0
	switch n.Kind {
	case pattern.Char, pattern.Set, pattern.Begin, pattern.End:
		return 1
	case pattern.Alt:
		sum = 2 * (len(n.Subs) - 1)
	case pattern.Group:
		if n.N > 0 {
			sum = 2
		}
	case pattern.Rep:
		one := size(n.Subs[0])
		if n.Max < 0 {
			return min(tooMany, n.Min*one+2+one)
		}
		return min(tooMany, n.Min*one+(n.Max-n.Min)*(1+one))
	}
	for _, sub := range n.Subs {
		sum = min(tooMany, sum+size(sub))
	}
	return sum
}

// block has a node's instructions, with X and Y counted from their own places.
func block(n pattern.Node) []Inst {
	switch n.Kind {
	case pattern.Char:
		return []Inst{{Kind: One, Spans: []api.Span{{From: n.N, To: n.N}}}}
	case pattern.Set:
		return []Inst{{Kind: One, Not: n.Not, Spans: n.Set}}
	case pattern.Begin:
		return []Inst{{Kind: AtBegin}}
	case pattern.End:
		return []Inst{{Kind: AtEnd}}
	case pattern.Group:
		sub := block(n.Subs[0])
		if n.N == 0 {
			return sub
		}
		return slices.Concat([]Inst{{Kind: Mark, N: 2 * n.N}}, sub, []Inst{{Kind: Mark, N: 2*n.N + 1}})
	case pattern.Alt:
		return altBlock(n.Subs)
	case pattern.Rep:
		return repBlock(n)
	}
	var l []Inst
	for _, sub := range n.Subs {
		l = append(l, block(sub)...)
	}
	return l
}

// altBlock sets the first of several branches before a block of the others.
func altBlock(subs []pattern.Node) []Inst {
	first := block(subs[0])
	if len(subs) == 1 {
		return first
	}
	others := altBlock(subs[1:])
	return slices.Concat([]Inst{{Kind: Two, X: 1, Y: len(first) + 2}}, first, []Inst{{Kind: Go, X: len(others) + 1}}, others)
}

func repBlock(n pattern.Node) []Inst {
	sub := block(n.Subs[0])
	least := slices.Repeat(sub, n.Min)
	if n.Max < 0 {
		return slices.Concat(least, []Inst{choice(1, len(sub)+2, n.Lazy)}, sub, []Inst{{Kind: Go, X: -len(sub) - 1}})
	}
	var more []Inst // from the last one to the first one
	for range n.Max - n.Min {
		more = slices.Concat([]Inst{choice(1, len(more)+len(sub)+1, n.Lazy)}, sub, more)
	}
	return append(least, more...)
}

func choice(in, out int, lazy bool) Inst {
	if lazy {
		in, out = out, in
	}
	return Inst{Kind: Two, X: in, Y: out}
}

// instructions are those of a pattern whose node is valid.
func instructions(n pattern.Node) ([]Inst, api.Errno) {
	if size(n)+3 > 400 {
		return nil, api.ErrFull
	}
	l := slices.Concat([]Inst{{Kind: Mark, N: 0}}, block(n), []Inst{{Kind: Mark, N: 1}, {Kind: Done}})
	for i, x := range l {
		switch x.Kind {
		case Two:
			l[i].X, l[i].Y = x.X+i, x.Y+i
		case Go:
			l[i].X = x.X + i
		}
	}
	return l, api.OK
}

// trial tries instructions for one start, each only once at each place.
type trial struct {
	p     []Inst
	text  []rune
	fold  bool
	tried map[[2]int]bool
}

func (w *trial) try(inst, at int, m [20]int) ([20]int, bool) {
	if inst < 0 || inst > len(w.p)-1 || w.tried[[2]int{inst, at}] {
		return m, false
	}
	w.tried[[2]int{inst, at}] = true
	x := w.p[inst]
	switch x.Kind {
	case One:
		if at < len(w.text) && hits(x, int(w.text[at]), w.fold) {
			return w.try(inst+1, at+1, m)
		}
	case Two:
		if y, is := w.try(x.X, at, m); is {
			return y, is
		}
		return w.try(x.Y, at, m)
	case Go:
		return w.try(x.X, at, m)
	case Mark:
		if x.N >= 0 && x.N <= 19 {
			m[x.N] = at
			return w.try(inst+1, at, m)
		}
	case AtBegin:
		if at == 0 {
			return w.try(inst+1, at, m)
		}
	case AtEnd:
		if at == len(w.text) {
			return w.try(inst+1, at, m)
		}
	case Done:
		return m, true
	}
	return m, false
}

// hits tells whether a rune matches a One.
func hits(x Inst, r int, fold bool) bool {
	const upper, lower = "ABCDEFGHIJKLMNOPQRSTUVWXYZ", "abcdefghijklmnopqrstuvwxyz"
	in := false
	for _, s := range x.Spans {
		in = in || r >= s.From && r <= s.To
		for i := range upper {
			u, l := int(upper[i]), int(lower[i])
			in = in || fold && r == u && l >= s.From && l <= s.To
			in = in || fold && r == l && u >= s.From && u <= s.To
		}
	}
	return in && !x.Not || !in && x.Not
}

// firstStart takes one start after the other.
func firstStart(p []Inst, text []rune, from int, fold bool) ([]api.Span, bool) {
	if from < 0 {
		return nil, false
	}
	for start := from; start <= len(text); start++ {
		var m [20]int
		for i := range m {
			m[i] = -1
		}
		w := trial{p, text, fold, map[[2]int]bool{}}
		m, is := w.try(0, start, m)
		if !is {
			continue
		}
		var l []api.Span
		for i := 0; i < 20; i += 2 {
			if m[i] == -1 || m[i+1] == -1 {
				m[i], m[i+1] = -1, -1
			}
			l = append(l, api.Span{From: m[i], To: m[i+1]})
		}
		return l, true
	}
	return nil, false
}

// lot draws the same numbers in each run of the tests.
type lot struct{ n uint64 }

func (l *lot) below(n int) int {
	l.n = l.n*6364136223846793005 + 1442695040888963407
	return int((l.n >> 33) % uint64(n))
}

// among draws one of several things.
func among[T any](l *lot, all ...T) T {
	return all[l.below(len(all))]
}
