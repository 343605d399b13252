package undo

import (
	"math"
	"slices"
	"testing"

	"stylus/api"
)

var numbers = []int{math.MinInt, math.MinInt + 1, math.MinInt32, -2, -1, 0, 1, 2, 3, 4, 5, 49, 50, 51, 2000, math.MaxInt32, 1 << 31, 1<<31 + 1, 1 << 33, math.MaxInt - 1, math.MaxInt}

// R1

func TestAnyNumbers(t *testing.T) {
	l := lot(3)
	for _, kind := range numbers {
		for _, a := range numbers {
			for _, b := range numbers {
				s := State{
					Text:    []rune{rune(a), rune(b), 'x', rune(kind)}[l.draw(3):],
					Sels:    []api.Sel{{Anchor: a, Head: b}},
					Session: b,
					Spans:   []api.Span{{From: b, To: kind}, {From: a, To: a}},
				}
				p := newPair(t, s)
				p.do(1+l.draw(3), numbered(1))
				p.do(kind, s)
				p.undo()
				p.do(kind, numbered(2))
				p.undo()
				p.redo()
			}
		}
	}
}

// Every rune that is not valid is next to the bounds of those that are.
func TestAnyRunes(t *testing.T) {
	p := newPair(t, State{})
	for _, r := range []rune{math.MinInt32, -2, -1, 0, 1, 9, 10, 0xD7FF, 0xD800, 0xDBFF, 0xDC00, 0xDFFF, 0xE000, 0xFFFD, 0x10FFFF, 0x110000, 0x110001, math.MaxInt32} {
		p.do(Step, State{Text: []rune{r}})
		p.do(Typed, State{Text: []rune{r, r, 'a'}})
		p.thereAndBack()
	}
}

func TestLongArguments(t *testing.T) {
	const n = 1000000
	big := State{Text: long(n), Sels: make([]api.Sel, n), Session: n, Spans: make([]api.Span, n)}
	for i := range n {
		big.Sels[i] = api.Sel{Anchor: n - i, Head: i}
		big.Spans[i] = api.Span{From: -i, To: i}
	}
	other := State{Text: slices.Insert(slices.Clone(big.Text), n/2, -1), Sels: big.Sels[:n-1], Spans: big.Spans[1:]}
	p := newPair(t, big)
	p.do(Step, other)
	p.do(Typed, State{})
	p.do(Typed, big)
	p.do(Moved, other)
	p.thereAndBack()
	p.undo()
	p.do(Moved, big)
	p.thereAndBack()
}

// Texts whose lengths are around the limit grow and shrink across it.
func TestTextsAroundTheLimit(t *testing.T) {
	p := newPair(t, State{Text: long(1999)})
	for _, n := range []int{2000, 2001, 2002, 1998, 2001, 4000, 2000, 0, 2001} {
		p.do(Step, State{Text: long(n)})
		p.do(Typed, State{Text: append([]rune{'x'}, long(n)...)})
		p.do(Moved, State{Text: append(long(n), 'x')})
		p.thereAndBack()
	}
}

// R2

func TestErrorsChangeNothing(t *testing.T) {
	l := lot(9)
	for range 300 {
		p := newPair(t, numbered(0))
		for i := range 60 {
			for _, kind := range otherKinds {
				p.do(kind, numbered(1000+i))
			}
			switch l.draw(5) {
			case 0:
				p.undo()
			case 1:
				p.redo()
			default:
				p.do(1+l.draw(3), numbered(i))
			}
		}
		p.thereAndBack()
	}
}

// R3

// clone returns a state in memory of its own.
func clone(s State) State {
	return State{slices.Clone(s.Text), slices.Clone(s.Sels), s.Session, slices.Clone(s.Spans)}
}

// roomy returns a list with room behind its end, and all of its memory.
func roomy[T any](l []T, behind ...T) (list, all []T) {
	all = append(slices.Clone(l), behind...)
	return all[:len(l)], all
}

// roomyState returns a state whose lists have room behind their ends, and one
// with all of their memory.
func roomyState(s State) (state, all State) {
	state, all = s, s
	state.Text, all.Text = roomy(s.Text, 'g', 10, 'h', -1)
	state.Sels, all.Sels = roomy(s.Sels, api.Sel{Anchor: 71, Head: 72}, api.Sel{Anchor: 73, Head: 74})
	state.Spans, all.Spans = roomy(s.Spans, api.Span{From: 75, To: 76}, api.Span{From: 77, To: 78})
	return state, all
}

// spoil writes over all memory of a list.
func spoil[T any](l []T, with T) {
	l = l[:cap(l)]
	for i := range l {
		l[i] = with
	}
}

// spoilState writes over all memory of a state.
func spoilState(s State) {
	spoil(s.Text, -77)
	spoil(s.Sels, api.Sel{Anchor: -77, Head: -78})
	spoil(s.Spans, api.Span{From: -77, To: -78})
}

// given has states that follow one another.
var given = []State{
	of("abcdef"),
	{Text: []rune("abxyzdef"), Sels: []api.Sel{{Anchor: 3, Head: 4}}, Session: 1, Spans: []api.Span{{From: 1, To: 2}}},
	{Text: []rune("abxyzdef"), Sels: []api.Sel{{Anchor: 4, Head: 3}, {Anchor: 6, Head: 6}}, Session: 1, Spans: []api.Span{{From: 3, To: 4}, {From: 4, To: 4}}},
	{},
	{Text: []rune{-1, 'a', 0xD800}, Sels: []api.Sel{{Anchor: -1, Head: 99}}, Spans: []api.Span{{From: 9, To: -9}}},
	{Text: long(2001), Session: -4},
	{Text: long(2000), Sels: []api.Sel{{}}},
}

func TestArgumentsStay(t *testing.T) {
	for i, first := range given {
		for _, second := range given {
			a, allA := roomyState(first)
			b, allB := roomyState(second)
			wantA, wantB := clone(allA), clone(allB)
			l := New(a)
			for kind := 0; kind <= 4; kind++ {
				l.Do(kind, b)
				l.Do(kind, a)
				l.Undo()
				l.Do(kind, b)
				l.Undo()
				l.Redo()
				l.Now()
			}
			if !same(allA, wantA) || !same(allB, wantB) {
				t.Errorf("%d: became %s, %s", i, short(allA), short(allB))
			}
		}
	}
}

// What the caller does later to what was handed in is not seen, whatever became
// of it in between.
func TestArgumentsAreNotKept(t *testing.T) {
	for _, kind := range kinds {
		for _, other := range kinds {
			p := newPair(t, numbered(0))
			handed := []State{}
			do := func(kind int, s State) {
				part, all := roomyState(s)
				handed = append(handed, all)
				e := p.l.Do(kind, part)
				if want := p.w.do(kind, s); e != want {
					t.Errorf("Do(%d): %d, want %d", kind, e, want)
				}
			}
			for i, s := range given {
				do(kind, s)
				do(other, given[(i+3)%len(given)])
				do(0, s)
				if i%2 == 1 {
					p.undo()
				}
				if i%4 == 1 {
					do(Moved, given[(i+5)%len(given)])
				}
			}
			for _, s := range handed {
				spoilState(s)
			}
			p.hold()
			p.thereAndBack()
		}
	}
}

func TestNewKeepsNothing(t *testing.T) {
	for _, s := range given {
		part, all := roomyState(s)
		l := New(part)
		spoilState(all)
		holdNow(t, l, s, 0, 0)
		l.Do(Step, of("x"))
		holdUndo(t, l, true)
		holdNow(t, l, s, 0, 1)
	}
}

// walk goes back and forth, and calls f at each state.
func walk(p *pair, f func()) {
	f()
	for p.undo() {
		f()
	}
	for p.redo() {
		f()
	}
}

func TestNowIsNewMemory(t *testing.T) {
	for _, kind := range kinds {
		p := newPair(t, numbered(0))
		for i, s := range given {
			p.do(kind, s)
			p.do(1+i%3, given[(i+2)%len(given)])
		}
		for range 3 {
			walk(p, func() {
				one, two := p.l.Now(), p.l.Now()
				want := clone(two)
				spoilState(one)
				if !same(two, want) {
					t.Errorf("what Now returns shares memory: %s, want %s", short(two), short(want))
				}
				p.hold()
			})
		}
	}
}

func TestNowIsAppendedTo(t *testing.T) {
	p := newPair(t, numbered(0))
	for _, s := range given {
		p.do(Step, s)
	}
	walk(p, func() {
		one, two := p.l.Now(), p.l.Now()
		one.Text = append(one.Text, 'u')
		one.Sels = append(one.Sels, api.Sel{Anchor: 1})
		one.Spans = append(one.Spans, api.Span{From: 1})
		two.Text = append(two.Text, 'v')
		two.Sels = append(two.Sels, api.Sel{Anchor: 2})
		two.Spans = append(two.Spans, api.Span{From: 2})
		if one.Text[len(one.Text)-1] != 'u' || one.Sels[len(one.Sels)-1].Anchor != 1 || one.Spans[len(one.Spans)-1].From != 1 {
			t.Error("what Now returns shares the room behind its end")
		}
		p.hold()
	})
}

// What Now returned may be changed and handed in again.
func TestNowIsHandedInAgain(t *testing.T) {
	p := newPair(t, numbered(0))
	for i := range 40 {
		s := p.l.Now()
		s.Text = append(s.Text[:min(len(s.Text), i%5)], 'x', rune('a'+i%26))
		s.Sels = append(s.Sels, api.Sel{Anchor: i, Head: i})
		s.Spans = append(s.Spans[:0], api.Span{From: i, To: i})
		s.Session = i
		want := clone(s)
		e := p.l.Do(1+i%3, s)
		if e != p.w.do(1+i%3, want) {
			t.Errorf("Do: %d", e)
		}
		spoilState(s)
		p.hold()
	}
	p.thereAndBack()
}

// A nil list and an empty one are the same: what is done with either comes to
// the same.
func TestNilAndEmptyAreTheSame(t *testing.T) {
	empty := State{Text: make([]rune, 0, 3), Sels: make([]api.Sel, 0, 3), Spans: make([]api.Span, 0, 3)}
	for _, kinds := range [][]int{{Step, Step}, {Typed, Typed}, {Step, Moved}, {Typed, Step}, {Moved, Typed}} {
		a, b := New(State{}), New(empty)
		hold := func() {
			t.Helper()
			behind, ahead := a.Size()
			holdNow(t, b, a.Now(), behind, ahead)
		}
		hold()
		for _, kind := range kinds {
			a.Do(kind, of("x"))
			b.Do(kind, of("x"))
			hold()
			a.Do(kind, State{})
			b.Do(kind, empty)
			hold()
		}
		for range 5 {
			if x, y := a.Undo(), b.Undo(); x != y {
				t.Errorf("Undo: %t, %t", x, y)
			}
			hold()
		}
		for range 5 {
			if x, y := a.Redo(), b.Redo(); x != y {
				t.Errorf("Redo: %t, %t", x, y)
			}
			hold()
		}
	}
}

// R4

// The same calls give the same again, whatever else is done in between.
func TestCallsDoNotDependOnOthers(t *testing.T) {
	type answer struct {
		s             State
		e             api.Errno
		is            bool
		behind, ahead int
	}
	run := func(seed lot, between func()) []answer {
		l := New(numbered(0))
		var all []answer
		for range 200 {
			var a answer
			switch x := seed.draw(9); x {
			case 0, 1, 2:
				a.is = l.Undo()
			case 3, 4:
				a.is = l.Redo()
			default:
				a.e = l.Do(x-5, given[seed.draw(len(given))])
			}
			a.s = l.Now()
			a.behind, a.ahead = l.Size()
			all = append(all, a)
			between()
		}
		return all
	}
	for seed := range lot(50) {
		first := run(seed, func() {})
		other, n := New(of("other")), 0
		second := run(seed, func() {
			n++
			other.Do(n%4, numbered(n))
			other.Undo()
			other.Now()
			New(numbered(n)).Do(Typed, other.Now())
		})
		for i, a := range first {
			b := second[i]
			if !same(a.s, b.s) || a.e != b.e || a.is != b.is || a.behind != b.behind || a.ahead != b.ahead {
				t.Fatalf("%d, %d: %v, then %v", seed, i, a, b)
			}
		}
	}
}
