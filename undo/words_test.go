package undo

import (
	"slices"
	"testing"

	"stylus/api"
)

// told is a log as the chapter's words tell it: all of its states are there as
// they are.
type told struct {
	now     State
	earlier []State // the newest one last
	later   []State // the nearest one first
	run     bool
}

// step is what the chapter says of Step, but for the run.
func (w *told) step(s State) {
	w.earlier = append(w.earlier, w.now)
	if len(w.earlier) > 50 {
		w.earlier = w.earlier[1:]
	}
	w.later = nil
	w.now = s
}

func (w *told) do(kind int, s State) api.Errno {
	if kind == 1 {
		w.step(s)
		w.run = false
		return 0
	}
	if kind == 2 {
		if w.run {
			w.now = s
			w.later = nil
		} else {
			w.step(s)
			w.run = true
		}
		return 0
	}
	if kind == 3 {
		w.now = s
		w.run = false
		return 0
	}
	return 1
}

func (w *told) undo() bool {
	if len(w.earlier) == 0 {
		return false
	}
	w.later = append([]State{w.now}, w.later...)
	w.now = w.earlier[len(w.earlier)-1]
	w.earlier = w.earlier[:len(w.earlier)-1]
	w.run = false
	return true
}

func (w *told) redo() bool {
	if len(w.later) == 0 {
		return false
	}
	w.earlier = append(slices.Clip(w.earlier), w.now)
	w.now = w.later[0]
	w.later = w.later[1:]
	w.run = false
	return true
}

// pair is a log, and the same one as it is told.
type pair struct {
	t *testing.T
	l *Log
	w told
}

func newPair(t *testing.T, s State) *pair {
	p := &pair{t, New(s), told{now: s}}
	p.hold()
	return p
}

// hold holds the current state, and how many there are before and after it.
func (p *pair) hold() {
	p.t.Helper()
	if now := p.l.Now(); !same(now, p.w.now) {
		p.t.Errorf("Now: %v, want %v", short(now), short(p.w.now))
	}
	behind, ahead := p.l.Size()
	if behind != len(p.w.earlier) || ahead != len(p.w.later) {
		p.t.Errorf("Size: %d, %d, want %d, %d", behind, ahead, len(p.w.earlier), len(p.w.later))
	}
}

func (p *pair) do(kind int, s State) {
	p.t.Helper()
	e, want := p.l.Do(kind, s), p.w.do(kind, s)
	if e != want {
		p.t.Errorf("Do(%d): %d, want %d", kind, e, want)
	}
	p.hold()
}

func (p *pair) undo() bool {
	p.t.Helper()
	is, want := p.l.Undo(), p.w.undo()
	if is != want {
		p.t.Errorf("Undo: %t, want %t", is, want)
	}
	p.hold()
	return want
}

func (p *pair) redo() bool {
	p.t.Helper()
	is, want := p.l.Redo(), p.w.redo()
	if is != want {
		p.t.Errorf("Redo: %t, want %t", is, want)
	}
	p.hold()
	return want
}

// thereAndBack undoes all, redoes all, and goes back to where it began, with
// each state on the way held.
func (p *pair) thereAndBack() {
	p.t.Helper()
	behind, ahead := p.l.Size()
	for p.undo() {
	}
	for p.redo() {
	}
	for range ahead {
		p.undo()
	}
	if a, b := p.l.Size(); a != behind || b != ahead {
		p.t.Errorf("there and back: %d, %d, want %d, %d", a, b, behind, ahead)
	}
}

// P15.2, P15.3

// few are states which differ at the beginning, in the middle, at the end, or in
// nothing but what is not the text.
var few = []State{
	{Text: []rune("ab")},
	{Text: []rune("ab"), Sels: []api.Sel{{Anchor: 1, Head: 1}}},
	{Text: []rune("axb"), Session: 4},
	{},
}

// everySequence calls f with each list of n numbers from 0 up to most.
func everySequence(n, most int, f func([]int)) {
	l := make([]int, n)
	for {
		f(l)
		i := n - 1
		for ; i >= 0; i-- {
			if l[i]++; l[i] < most {
				break
			}
			l[i] = 0
		}
		if i < 0 {
			return
		}
	}
}

// All sequences of five calls, with each kind and each of a few states.
func TestAllSequencesOfFewStates(t *testing.T) {
	for first := range few[:2] {
		everySequence(4+first, 3*len(few)+2, func(l []int) {
			p := newPair(t, few[first])
			for _, x := range l {
				switch x {
				case 0:
					p.undo()
				case 1:
					p.redo()
				default:
					p.do(1+(x-2)%3, few[(x-2)/3])
				}
			}
			p.thereAndBack()
		})
		if t.Failed() {
			return
		}
	}
}

// All sequences of seven calls, with a state of its own for each of them.
func TestAllSequencesOfCalls(t *testing.T) {
	everySequence(7, 6, func(l []int) {
		p := newPair(t, numbered(0))
		for i, x := range l {
			switch x {
			case 0:
				p.undo()
			case 1:
				p.redo()
			case 2:
				p.do(0, numbered(i+1))
			default:
				p.do(x-2, numbered(i+1))
			}
		}
		if !t.Failed() {
			p.thereAndBack()
		}
	})
}

// lot draws numbers, the same ones each time.
type lot uint64

func (l *lot) draw(n int) int {
	*l = *l*6364136223846793005 + 1442695040888963407
	return int(uint64(*l)>>33) % n
}

// text draws what becomes of a text.
func (l *lot) text(t []rune) []rune {
	runes := []rune{'a', 'b', 'c', 10, 0x6F22, -1, 0xD800, 0x110000}
	from := l.draw(len(t) + 1)
	to := from + l.draw(len(t)-from+1)
	var ins []rune
	for range l.draw(4) {
		ins = append(ins, runes[l.draw(len(runes))])
	}
	switch l.draw(8) {
	case 0:
		return ins
	case 1:
		return t
	case 2:
		to = from
	case 3:
		from, to = 0, from
	case 4:
		to = len(t)
	}
	return slices.Concat(t[:from], ins, t[to:])
}

// state draws what becomes of a state.
func (l *lot) state(s State) State {
	s.Text = l.text(s.Text)
	if l.draw(2) == 0 {
		s.Sels = nil
		for range l.draw(4) {
			s.Sels = append(s.Sels, api.Sel{Anchor: l.draw(12) - 3, Head: l.draw(12) - 3})
		}
	}
	if l.draw(3) == 0 {
		s.Session = l.draw(9) - 4
	}
	if l.draw(3) == 0 {
		s.Spans = nil
		for range l.draw(4) {
			s.Spans = append(s.Spans, api.Span{From: l.draw(12) - 3, To: l.draw(12) - 3})
		}
	}
	return s
}

// Drawn sequences; how often each call is drawn is drawn, too.
func TestDrawnSequences(t *testing.T) {
	l := lot(15)
	for range 3000 {
		p := newPair(t, l.state(State{Text: []rune("abcabc")}))
		undos, redos, kinds := 1+l.draw(12), 1+l.draw(12), 1+l.draw(30)
		for range 1 + l.draw(200) {
			x := l.draw(undos + redos + kinds)
			switch {
			case x < undos:
				p.undo()
			case x < undos+redos:
				p.redo()
			default:
				p.do(l.draw(5), l.state(p.w.now))
			}
		}
		p.thereAndBack()
		if t.Failed() {
			return
		}
	}
}
