package undo

import (
	"fmt"
	"math"
	"slices"
	"testing"

	"stylus/api"
)

// kinds are the kinds of changes.
var kinds = []int{Step, Typed, Moved}

// same reports whether two states are the same; nil lists and empty ones are.
func same(a, b State) bool {
	return slices.Equal(a.Text, b.Text) && slices.Equal(a.Sels, b.Sels) && a.Session == b.Session && slices.Equal(a.Spans, b.Spans)
}

// short tells a state, cut off if it is long.
func short(s State) string {
	cut := func(n int) int { return min(n, 40) }
	return fmt.Sprintf("%q.. (%d), %v.. (%d), %d, %v.. (%d)", s.Text[:cut(len(s.Text))], len(s.Text), s.Sels[:cut(len(s.Sels))], len(s.Sels), s.Session, s.Spans[:cut(len(s.Spans))], len(s.Spans))
}

// of returns a state of a text alone.
func of(text string) State {
	return State{Text: []rune(text)}
}

// numbered returns a state that differs from those of other numbers in all.
func numbered(i int) State {
	return State{
		Text:    append([]rune("ab"), rune(0x100+i), 'c'),
		Sels:    []api.Sel{{Anchor: i, Head: 2 * i}},
		Session: i,
		Spans:   []api.Span{{From: i, To: 3 * i}, {From: -i, To: i}},
	}
}

// long returns a text of n runes, of which not all are the same.
func long(n int) []rune {
	t := make([]rune, n)
	for i := range t {
		t[i] = rune('a' + i%7)
	}
	return t
}

// holdNow holds the current state, and how many there are before and after it.
func holdNow(t *testing.T, l *Log, want State, behind, ahead int) {
	t.Helper()
	if now := l.Now(); !same(now, want) {
		t.Errorf("Now: %s, want %s", short(now), short(want))
	}
	if a, b := l.Size(); a != behind || b != ahead {
		t.Errorf("Size: %d, %d, want %d, %d", a, b, behind, ahead)
	}
}

// holdDo holds what Do returns.
func holdDo(t *testing.T, l *Log, kind int, s State, want api.Errno) {
	t.Helper()
	if e := l.Do(kind, s); e != want {
		t.Errorf("Do(%d, %s): %d, want %d", kind, short(s), e, want)
	}
}

// holdUndo and holdRedo hold what these return.

func holdUndo(t *testing.T, l *Log, want bool) {
	t.Helper()
	if is := l.Undo(); is != want {
		t.Errorf("Undo: %t", is)
	}
}

func holdRedo(t *testing.T, l *Log, want bool) {
	t.Helper()
	if is := l.Redo(); is != want {
		t.Errorf("Redo: %t", is)
	}
}

// P15.1

// states has states of all sorts, each of them different from its neighbours.
var states = []State{
	{},
	of("a"),
	of(""),
	of("ab"),
	of("xab"),
	of("xab\n漢"),
	of("xyb\n漢"),
	of("b\n漢"),
	of("quite another text"),
	{Text: []rune{-1}},
	{Text: []rune{math.MinInt32, 'a', math.MaxInt32}},
	{Text: []rune{math.MinInt32, 'a', 0xD800, 0xDFFF, 0x110000, math.MaxInt32}},
	{Text: []rune{0xD800, 0xDFFF, 0x110000, -1}},
	{Text: long(1999)},
	{Text: long(2000)},
	{Text: long(2001)},
	{Text: slices.Concat(long(1000), []rune{-7}, long(1500))},
	{Text: long(100000)},
	{Text: long(100000)[50:]},
	{Sels: []api.Sel{{Anchor: 0, Head: 0}}},
	{Sels: []api.Sel{{Anchor: 9, Head: 3}, {Anchor: 9, Head: 3}, {Anchor: -5, Head: 4}}},
	{Sels: []api.Sel{{Anchor: math.MinInt, Head: math.MaxInt}, {Anchor: math.MaxInt, Head: math.MinInt}}},
	{Sels: make([]api.Sel, 5000)},
	{Session: 1},
	{Session: -1},
	{Session: math.MinInt},
	{Session: math.MaxInt},
	{Spans: []api.Span{{From: 0, To: 0}}},
	{Spans: []api.Span{{From: 9, To: 3}, {From: 9, To: 3}, {From: -5, To: 4}}},
	{Spans: []api.Span{{From: math.MinInt, To: math.MaxInt}, {From: math.MaxInt, To: math.MinInt}}},
	{Spans: make([]api.Span, 5000)},
	numbered(1),
	numbered(2),
	numbered(1),
}

func TestNew(t *testing.T) {
	for _, s := range states {
		l := New(s)
		holdNow(t, l, s, 0, 0)
		holdUndo(t, l, false)
		holdRedo(t, l, false)
		holdNow(t, l, s, 0, 0)
	}
}

// No run is open in a new log: the first Typed keeps the state before it.
func TestNoRunInANewLog(t *testing.T) {
	for _, s := range states {
		l := New(s)
		holdDo(t, l, Typed, of("typed"), api.OK)
		holdNow(t, l, of("typed"), 1, 0)
		holdUndo(t, l, true)
		holdNow(t, l, s, 0, 1)
	}
}

func TestSizeAfterEachChange(t *testing.T) {
	l := New(of("0"))
	holdDo(t, l, Step, of("1"), api.OK)
	holdNow(t, l, of("1"), 1, 0)
	holdDo(t, l, Typed, of("2"), api.OK)
	holdNow(t, l, of("2"), 2, 0)
	holdDo(t, l, Typed, of("3"), api.OK)
	holdNow(t, l, of("3"), 2, 0)
	holdDo(t, l, Moved, of("4"), api.OK)
	holdNow(t, l, of("4"), 2, 0)
	holdUndo(t, l, true)
	holdNow(t, l, of("1"), 1, 1)
	holdDo(t, l, Moved, of("5"), api.OK)
	holdNow(t, l, of("5"), 1, 1)
	holdUndo(t, l, true)
	holdNow(t, l, of("0"), 0, 2)
	holdRedo(t, l, true)
	holdNow(t, l, of("5"), 1, 1)
	holdRedo(t, l, true)
	holdNow(t, l, of("4"), 2, 0)
	holdUndo(t, l, true)
	holdDo(t, l, Typed, of("6"), api.OK)
	holdNow(t, l, of("6"), 2, 0)
}

// P15.2

func TestNumbersOfKinds(t *testing.T) {
	for i, kind := range kinds {
		if kind != i+1 {
			t.Errorf("kind %d: %d", i+1, kind)
		}
	}
}

var otherKinds = []int{0, 4, -1, -2, -3, 5, 6, 7, 257, 1 << 32, 1<<32 + 1, 1<<32 + 2, math.MinInt, math.MinInt + 1, math.MinInt32, math.MaxInt32, math.MaxInt - 1, math.MaxInt}

func TestOtherKindsChangeNothing(t *testing.T) {
	for _, kind := range otherKinds {
		l := New(of("0"))
		holdDo(t, l, kind, of("x"), api.ErrArg)
		holdNow(t, l, of("0"), 0, 0)
		holdDo(t, l, Step, of("1"), api.OK)
		holdDo(t, l, Step, of("2"), api.OK)
		holdDo(t, l, Step, of("3"), api.OK)
		holdUndo(t, l, true)
		holdUndo(t, l, true)
		holdDo(t, l, kind, of("x"), api.ErrArg)
		holdNow(t, l, of("1"), 1, 2)
		holdRedo(t, l, true)
		holdNow(t, l, of("2"), 2, 1)
		// An open run remains open.
		holdDo(t, l, Typed, of("4"), api.OK)
		holdDo(t, l, kind, of("x"), api.ErrArg)
		holdNow(t, l, of("4"), 3, 0)
		holdDo(t, l, Typed, of("5"), api.OK)
		holdNow(t, l, of("5"), 3, 0)
		// And one that is closed remains closed.
		holdDo(t, l, Moved, of("6"), api.OK)
		holdDo(t, l, kind, of("x"), api.ErrArg)
		holdDo(t, l, Typed, of("7"), api.OK)
		holdNow(t, l, of("7"), 4, 0)
		holdUndo(t, l, true)
		holdNow(t, l, of("6"), 3, 1)
		holdUndo(t, l, true)
		holdNow(t, l, of("2"), 2, 2)
	}
}

func TestStep(t *testing.T) {
	l := New(of("0"))
	holdDo(t, l, Step, of("1"), api.OK)
	holdDo(t, l, Step, of("2"), api.OK)
	holdDo(t, l, Typed, of("3"), api.OK)
	holdDo(t, l, Step, of("4"), api.OK) // closes the run
	holdNow(t, l, of("4"), 4, 0)
	holdDo(t, l, Typed, of("5"), api.OK)
	holdNow(t, l, of("5"), 5, 0)
	for i := 4; i >= 0; i-- {
		holdUndo(t, l, true)
		holdNow(t, l, of(string(rune('0'+i))), i, 5-i)
	}
	holdUndo(t, l, false)
	holdRedo(t, l, true)
	holdRedo(t, l, true)
	holdNow(t, l, of("2"), 2, 3)
	holdDo(t, l, Step, of("6"), api.OK) // drops the later ones
	holdNow(t, l, of("6"), 3, 0)
	holdRedo(t, l, false)
	holdNow(t, l, of("6"), 3, 0)
	holdUndo(t, l, true)
	holdNow(t, l, of("2"), 2, 1)
}

func TestTypedIsOneGroup(t *testing.T) {
	for n := 1; n <= 120; n++ {
		l := New(of("0"))
		for i := range n {
			holdDo(t, l, Typed, numbered(i), api.OK)
			holdNow(t, l, numbered(i), 1, 0)
		}
		holdUndo(t, l, true)
		holdNow(t, l, of("0"), 0, 1)
		holdRedo(t, l, true)
		holdNow(t, l, numbered(n-1), 1, 0)
	}
}

// What closes a run, and what doesn't.
func TestWhatClosesARun(t *testing.T) {
	start := func() *Log {
		l := New(of("0"))
		l.Do(Step, of("1"))
		l.Do(Typed, of("2"))
		return l
	}
	l := start()
	holdDo(t, l, Step, of("3"), api.OK)
	holdDo(t, l, Typed, of("4"), api.OK)
	holdNow(t, l, of("4"), 4, 0)
	holdUndo(t, l, true)
	holdNow(t, l, of("3"), 3, 1)

	l = start()
	holdDo(t, l, Moved, of("2"), api.OK) // the same state
	holdDo(t, l, Typed, of("4"), api.OK)
	holdNow(t, l, of("4"), 3, 0)
	holdUndo(t, l, true)
	holdNow(t, l, of("2"), 2, 1)

	l = start()
	holdUndo(t, l, true)
	holdDo(t, l, Typed, of("4"), api.OK)
	holdNow(t, l, of("4"), 2, 0)
	holdUndo(t, l, true)
	holdNow(t, l, of("1"), 1, 1)

	l = start()
	holdUndo(t, l, true)
	holdRedo(t, l, true)
	holdDo(t, l, Typed, of("4"), api.OK)
	holdNow(t, l, of("4"), 3, 0)
	holdUndo(t, l, true)
	holdNow(t, l, of("2"), 2, 1)

	l = start()
	holdRedo(t, l, false)
	l.Now()
	holdDo(t, l, Typed, of("4"), api.OK)
	holdNow(t, l, of("4"), 2, 0)
	holdUndo(t, l, true)
	holdNow(t, l, of("1"), 1, 1)
}

// A run that was opened behind an Undo drops the later states at once.
func TestTypedDropsLaterStates(t *testing.T) {
	l := New(of("0"))
	for i := 1; i <= 4; i++ {
		l.Do(Step, numbered(i))
	}
	l.Undo()
	l.Undo()
	holdDo(t, l, Typed, of("5"), api.OK)
	holdNow(t, l, of("5"), 3, 0)
	holdRedo(t, l, false)
	holdDo(t, l, Typed, of("6"), api.OK)
	holdNow(t, l, of("6"), 3, 0)
	holdRedo(t, l, false)
	holdUndo(t, l, true)
	holdNow(t, l, numbered(2), 2, 1)
	holdRedo(t, l, true)
	holdNow(t, l, of("6"), 3, 0)
}

// Moved in the middle changes the current state alone, whatever its text is.
func TestMovedInTheMiddle(t *testing.T) {
	for _, text := range []string{"ab2", "", "a", "2", "xab2", "ab2x", "quite another one", "ab1", "ab3", "ab\n漢"} {
		l := New(of("ab0"))
		for _, next := range []string{"ab1", "ab2", "ab3", "ab4"} {
			l.Do(Step, of(next))
		}
		l.Undo()
		l.Undo()
		moved := State{Text: []rune(text), Session: 3, Sels: []api.Sel{{Anchor: 1, Head: 2}}}
		for range 3 {
			holdDo(t, l, Moved, moved, api.OK)
			holdNow(t, l, moved, 2, 2)
		}
		for range 2 {
			for i, want := range []State{of("ab3"), of("ab4")} {
				holdRedo(t, l, true)
				holdNow(t, l, want, 3+i, 1-i)
			}
			holdRedo(t, l, false)
			for i, want := range []State{of("ab3"), moved, of("ab1"), of("ab0")} {
				holdUndo(t, l, true)
				holdNow(t, l, want, 3-i, 1+i)
			}
			holdUndo(t, l, false)
			for i, want := range []State{of("ab1"), moved} {
				holdRedo(t, l, true)
				holdNow(t, l, want, 1+i, 3-i)
			}
		}
	}
}

// Moved leads from each of the states to each other one, between any two.
func TestMovedBetweenAnyStates(t *testing.T) {
	for i := range states {
		for j := range states {
			l := New(states[i])
			l.Do(Step, of("b"))
			l.Do(Step, states[j])
			l.Undo()
			holdDo(t, l, Moved, states[(i+j)%len(states)], api.OK)
			holdNow(t, l, states[(i+j)%len(states)], 1, 1)
			holdUndo(t, l, true)
			holdNow(t, l, states[i], 0, 2)
			holdRedo(t, l, true)
			holdRedo(t, l, true)
			holdNow(t, l, states[j], 2, 0)
			holdUndo(t, l, true)
			holdNow(t, l, states[(i+j)%len(states)], 1, 1)
		}
	}
}

func TestUndoAndRedoWithNoneLeft(t *testing.T) {
	l := New(numbered(0))
	for range 3 {
		holdUndo(t, l, false)
		holdRedo(t, l, false)
		holdNow(t, l, numbered(0), 0, 0)
	}
	l.Do(Step, numbered(1))
	for range 3 {
		holdRedo(t, l, false)
		holdNow(t, l, numbered(1), 1, 0)
	}
	holdUndo(t, l, true)
	for range 3 {
		holdUndo(t, l, false)
		holdNow(t, l, numbered(0), 0, 1)
	}
	holdRedo(t, l, true)
	holdNow(t, l, numbered(1), 1, 0)
}

func TestNilLog(t *testing.T) {
	var none *Log
	for _, kind := range append(slices.Clone(otherKinds), kinds...) {
		for _, s := range states {
			holdDo(t, none, kind, s, api.ErrArg)
		}
	}
	for range 2 {
		holdUndo(t, none, false)
		holdRedo(t, none, false)
		holdNow(t, none, State{}, 0, 0)
	}
}

// The oldest states are dropped, one by one, and the others are the ones they
// were.
func TestOldestOnesAreDropped(t *testing.T) {
	groups := map[string]func(l *Log, i int){
		"Step": func(l *Log, i int) { l.Do(Step, numbered(i)) },
		"Typed": func(l *Log, i int) {
			l.Do(Moved, numbered(i-1))
			l.Do(Typed, of("x"))
			l.Do(Typed, numbered(i))
		},
		"both": func(l *Log, i int) { l.Do(1+i%2, numbered(i)) },
	}
	for name, group := range groups {
		for _, n := range []int{1, 48, 49, 50, 51, 52, 99, 100, 101, 160} {
			l := New(numbered(0))
			for i := 1; i <= n; i++ {
				group(l, i)
				holdNow(t, l, numbered(i), min(i, 50), 0)
			}
			least := max(0, n-50)
			for range 2 {
				for i := n - 1; i >= least; i-- {
					holdUndo(t, l, true)
					holdNow(t, l, numbered(i), i-least, n-i)
				}
				holdUndo(t, l, false)
				for i := least + 1; i <= n; i++ {
					holdRedo(t, l, true)
					holdNow(t, l, numbered(i), i-least, n-i)
				}
				holdRedo(t, l, false)
			}
			if t.Failed() {
				t.Fatalf("%s, %d", name, n)
			}
		}
	}
}

// Moved drops none, and makes no room.
func TestMovedAmongMany(t *testing.T) {
	l := New(numbered(0))
	for i := 1; i <= 70; i++ {
		l.Do(Step, numbered(i))
	}
	for i := 69; i >= 20; i-- {
		holdUndo(t, l, true)
		holdNow(t, l, numbered(i), i-20, 70-i)
		holdDo(t, l, Moved, numbered(1000+i), api.OK)
		holdNow(t, l, numbered(1000+i), i-20, 70-i)
	}
	for range 2 {
		for i := 21; i <= 69; i++ {
			holdRedo(t, l, true)
			holdNow(t, l, numbered(1000+i), i-20, 70-i)
		}
		holdRedo(t, l, true)
		holdNow(t, l, numbered(70), 50, 0)
		for i := 69; i >= 20; i-- {
			holdUndo(t, l, true)
			holdNow(t, l, numbered(1000+i), i-20, 70-i)
		}
	}
}

// Behind many Undos, the groups that are made count from there on.
func TestStepsBehindUndos(t *testing.T) {
	for undone := range 51 {
		l := New(numbered(0))
		for i := 1; i <= 50; i++ {
			l.Do(Step, numbered(i))
		}
		for range undone {
			l.Undo()
		}
		left := 50 - undone
		for i := 1; i <= 55; i++ {
			holdDo(t, l, 1+i%2, numbered(100+i), api.OK)
			holdNow(t, l, numbered(100+i), min(50, left+i), 0)
		}
		for i := 54; i >= 5; i-- {
			holdUndo(t, l, true)
			want := numbered(100 + i)
			holdNow(t, l, want, i-5, 55-i)
		}
		holdUndo(t, l, false)
	}
}

// P15.3

// Each of the states is undone and redone, with each other one beside it.
func TestAnyStatesAreUndoneAndRedone(t *testing.T) {
	for _, kind := range []int{Step, Typed} {
		for _, a := range states {
			for _, b := range states {
				l := New(a)
				holdDo(t, l, kind, b, api.OK)
				holdNow(t, l, b, 1, 0)
				for range 2 {
					holdUndo(t, l, true)
					holdNow(t, l, a, 0, 1)
					holdRedo(t, l, true)
					holdNow(t, l, b, 1, 0)
				}
			}
		}
	}
}

// All of them, one after the other.
func TestAllStatesAreUndoneAndRedone(t *testing.T) {
	l := New(states[0])
	last := len(states) - 1
	for _, s := range states[1:] {
		l.Do(Step, s)
	}
	for n := range last + 1 {
		for i := 1; i <= n; i++ {
			holdUndo(t, l, true)
			holdNow(t, l, states[last-i], last-i, i)
		}
		for i := n - 1; i >= 0; i-- {
			holdRedo(t, l, true)
			holdNow(t, l, states[last-i], last-i, i)
		}
	}
}

// Where nothing but one of the things of a state differs.
func TestOneThingDiffers(t *testing.T) {
	base := numbered(5)
	others := []State{base, base, base, base, base, base, base}
	others[0].Text = []rune("abxc")
	others[1].Sels = []api.Sel{{Anchor: 5, Head: 11}}
	others[2].Sels = nil
	others[3].Session = 6
	others[4].Spans = []api.Span{{From: 5, To: 15}, {From: -5, To: 6}}
	others[5].Spans = nil
	for _, other := range others {
		for _, kind := range []int{Step, Typed} {
			l := New(base)
			holdDo(t, l, kind, other, api.OK)
			holdNow(t, l, other, 1, 0)
			holdUndo(t, l, true)
			holdNow(t, l, base, 0, 1)
			holdRedo(t, l, true)
			holdNow(t, l, other, 1, 0)
		}
		l := New(base)
		holdDo(t, l, Moved, other, api.OK)
		holdNow(t, l, other, 0, 0)
	}
}

// The same state again is a group, as any other one.
func TestTheSameStateAgain(t *testing.T) {
	l := New(numbered(1))
	holdDo(t, l, Step, numbered(1), api.OK)
	holdNow(t, l, numbered(1), 1, 0)
	holdDo(t, l, Step, numbered(1), api.OK)
	holdNow(t, l, numbered(1), 2, 0)
	holdDo(t, l, Typed, numbered(1), api.OK)
	holdDo(t, l, Typed, numbered(1), api.OK)
	holdNow(t, l, numbered(1), 3, 0)
	holdDo(t, l, Moved, numbered(1), api.OK)
	holdNow(t, l, numbered(1), 3, 0)
	for i := 2; i >= 0; i-- {
		holdUndo(t, l, true)
		holdNow(t, l, numbered(1), i, 3-i)
	}
	holdDo(t, l, Moved, numbered(1), api.OK)
	holdNow(t, l, numbered(1), 0, 3)
}

// One Undo leads to the state before the last Step, or before the run.
func TestOneUndo(t *testing.T) {
	before := State{Text: []rune("before"), Sels: []api.Sel{{Anchor: 2, Head: 6}}}
	l := New(of("0"))
	l.Do(Step, of("1"))
	l.Do(Moved, before)
	l.Do(Step, of("2"))
	l.Do(Moved, of("2 and more"))
	l.Do(Moved, of("else"))
	holdUndo(t, l, true)
	holdNow(t, l, before, 1, 1)
	l.Do(Typed, of("3"))
	l.Do(Typed, of("34"))
	l.Do(Typed, of("345"))
	l.Do(Moved, of("346"))
	holdUndo(t, l, true)
	holdNow(t, l, before, 1, 1)
	holdRedo(t, l, true)
	holdNow(t, l, of("346"), 2, 0)
}

func TestTwoLogs(t *testing.T) {
	a, b := New(of("a")), New(of("a"))
	b.Do(Step, of("b"))
	b.Do(Typed, of("c"))
	for i := range 60 {
		a.Do(1+i%3, numbered(i))
		a.Undo()
		a.Redo()
	}
	holdNow(t, b, of("c"), 2, 0)
	a.Do(Moved, of("x"))
	b.Do(Typed, of("d")) // the run is still open
	holdNow(t, b, of("d"), 2, 0)
	holdUndo(t, b, true)
	holdNow(t, b, of("b"), 1, 1)
	a.Do(Step, of("y"))
	holdRedo(t, b, true)
	holdNow(t, b, of("d"), 2, 0)
	holdUndo(t, b, true)
	holdUndo(t, b, true)
	holdNow(t, b, of("a"), 0, 2)
	holdNow(t, a, of("y"), 41, 0)
}

// Ways

// A rune that is typed into a long text costs one edit of no more than it.
func TestStatesAreKeptAsEdits(t *testing.T) {
	text := long(2000)
	l := New(State{Text: text})
	for i := range 50 {
		text = slices.Insert(slices.Clone(text), 40*i, 'x')
		l.Do(Step, State{Text: text})
	}
	holdKept := func(l []kept, want api.Edit) {
		t.Helper()
		for i, k := range l {
			if len(k.edits) != 1 || k.edits[0].Del != want.Del || !slices.Equal(k.edits[0].Ins, want.Ins) {
				t.Errorf("%d: %v", i, k.edits)
			}
		}
	}
	for range 51 {
		holdKept(l.earlier.items, api.Edit{Del: 1})
		holdKept(l.later.items, api.Edit{Ins: []rune{'x'}})
		l.Undo()
	}
	holdNow(t, l, State{Text: long(2000)}, 0, 50)
}

func TestStack(t *testing.T) {
	var s stack[int]
	if _, is := s.pop(); is || s.size() != 0 {
		t.Error("pop of none")
	}
	for i := range 70 {
		s.push(i)
		if s.size() != min(50, i+1) {
			t.Errorf("%d pushed: %d", i+1, s.size())
		}
	}
	for i := 69; i >= 20; i-- {
		if x, is := s.pop(); x != i || !is || s.size() != i-20 {
			t.Errorf("pop: %d, %t, %d left", x, is, s.size())
		}
	}
	if x, is := s.pop(); x != 0 || is {
		t.Errorf("pop of none: %d, %t", x, is)
	}
	s.push(7)
	s.empty()
	if _, is := s.pop(); is || s.size() != 0 {
		t.Error("empty")
	}
}

// What was popped or dropped is not kept alive behind the end.
func TestStackKeepsNothingElse(t *testing.T) {
	var s stack[*int]
	for i := range 60 {
		s.push(&i)
	}
	for range 30 {
		s.pop()
	}
	for i, x := range s.items[:cap(s.items)] {
		if (x != nil) != (i < 20) {
			t.Errorf("%d: %v", i, x)
		}
	}
}
