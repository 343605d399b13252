package session

import (
	"fmt"
	"slices"
	"testing"

	"stylus/api"
	"stylus/edits"
	"stylus/expand"
	"stylus/snippet"
	"stylus/transform"
)

// The chapter's words, one by one: a second way to what the functions return.

func wordsRight(x State) bool {
	for i := range x.Fields {
		s := x.Fields[i].Span
		if s.From > s.To || s.From < 0 || s.To < 0 || s.From > len(x.Text) || s.To > len(x.Text) {
			return false
		}
		if up := x.Fields[i].Up; up != -1 && !slices.Contains(upTo(i), up) {
			return false
		}
	}
	return true
}

// upTo returns all numbers from 0 on that are less than n.
func upTo(n int) []int {
	var l []int
	for i := 0; i < n; i++ {
		l = append(l, i)
	}
	return l
}

// wordsPlace moves a place by an edit, low or high.
func wordsPlace(p int, e api.Edit, high bool) int {
	switch {
	case p < e.At:
		return p
	case p > e.At+e.Del:
		return p + len(e.Ins) - e.Del
	case high:
		return e.At + len(e.Ins)
	}
	return e.At
}

func wordsAbove(l []expand.Field, i int) []int {
	if l[i].Up == -1 {
		return nil
	}
	return append([]int{l[i].Up}, wordsAbove(l, l[i].Up)...)
}

func wordsIn(a, b api.Span) bool {
	return b.From <= a.From && a.From <= b.To && b.From <= a.To && a.To <= b.To
}

func wordsMove(l []expand.Field, e api.Edit, about int) []expand.Field {
	var stick []int
	if about != -1 {
		stick = append(wordsAbove(l, about), about)
	}
	var moved []expand.Field
	for i, f := range l {
		if slices.Contains(stick, i) {
			f.Span.From = wordsPlace(l[i].Span.From, e, false)
			f.Span.To = wordsPlace(l[i].Span.To, e, true)
		} else {
			f.Span.From = wordsPlace(l[i].Span.From, e, true)
			f.Span.To = wordsPlace(l[i].Span.To, e, false)
		}
		if f.Span.To < f.Span.From {
			f.Span.To = f.Span.From
		}
		moved = append(moved, f)
	}
	for i := range moved {
		for moved[i].Up != -1 && !wordsIn(moved[i].Span, moved[moved[i].Up].Span) {
			moved[i].Up = moved[moved[i].Up].Up
		}
	}
	return moved
}

// wordsApply applies one edit to the text.
func wordsApply(t []rune, e api.Edit) []rune {
	var s []rune
	for p := 0; p <= len(t); p++ {
		if p == e.At {
			s = append(s, e.Ins...)
		}
		if p < len(t) && (p < e.At || p >= e.At+e.Del) {
			s = append(s, t[p])
		}
	}
	return s
}

func wordsPrimary(l []expand.Field, n int) int {
	for i, f := range l {
		if f.N == n && f.Primary {
			return i
		}
	}
	return -1
}

// wordsShould returns the text that a field should have, if it should have one.
func wordsShould(x State, i int) ([]rune, bool) {
	f := x.Fields[i]
	p := wordsPrimary(x.Fields, f.N)
	if p == -1 || p == i {
		return nil, false
	}
	s := x.Fields[p].Span
	t := x.Text[s.From:s.To]
	if !f.Turn {
		return t, true
	}
	turned, _ := transform.Apply(f.T, t)
	return turned, true
}

func wordsSettle(x State) (State, api.Errno) {
	if len(x.Text) > 2000 {
		return State{}, api.ErrFull
	}
	some := true
	for visits := 0; some && visits < len(x.Fields)+2; visits++ {
		some = false
		for i := range x.Fields {
			s := x.Fields[i].Span
			t, is := wordsShould(x, i)
			if !is || slices.Equal(t, x.Text[s.From:s.To]) {
				continue
			}
			some = true
			e := api.Edit{At: s.From, Del: s.To - s.From, Ins: slices.Clone(t)}
			x = State{wordsApply(x.Text, e), wordsMove(x.Fields, e, i), x.Active}
			if len(x.Text) > 2000 {
				return State{}, api.ErrFull
			}
		}
	}
	if !wordsFine(x) {
		return State{Text: x.Text}, api.OK
	}
	return x, api.OK
}

// wordsFine reports whether all fields have the texts that they should have, and
// any two are disjoint, or one is in the other.
func wordsFine(x State) bool {
	for i, f := range x.Fields {
		t, is := wordsShould(x, i)
		if is && !slices.Equal(t, x.Text[f.Span.From:f.Span.To]) {
			return false
		}
		for _, g := range x.Fields[:i] {
			disjoint := f.Span.To <= g.Span.From || g.Span.To <= f.Span.From
			if !disjoint && !wordsIn(f.Span, g.Span) && !wordsIn(g.Span, f.Span) {
				return false
			}
		}
	}
	return true
}

func wordsEdit(x State, l []api.Edit) (State, api.Errno) {
	if !wordsRight(x) || !edits.Right(l, len(x.Text)) {
		return State{}, api.ErrArg
	}
	for _, f := range x.Fields {
		if f.Turn && transform.Check(f.T) != 0 {
			return State{}, api.ErrArg
		}
	}
	if len(x.Text) > 2000 {
		return State{}, api.ErrFull
	}
	for n := len(l); n > 0; n-- {
		e := l[n-1]
		x = State{wordsApply(x.Text, e), wordsMove(x.Fields, e, wordsPrimary(x.Fields, x.Active)), x.Active}
		if len(x.Text) > 2000 {
			return State{}, api.ErrFull
		}
	}
	return wordsSettle(x)
}

func wordsBegin(t []rune, s api.Span, l []snippet.Node, values []expand.Value) (State, api.Errno) {
	if s.From < 0 || s.To > len(t) || s.From > s.To {
		return State{}, api.ErrArg
	}
	text, fs, e := expand.Lay(l, values)
	if e != 0 {
		return State{}, e
	}
	x := State{Text: wordsApply(t, api.Edit{At: s.From, Del: s.To - s.From, Ins: text})}
	if len(x.Text) > 2000 {
		return State{}, api.ErrFull
	}
	for _, f := range fs {
		f.Span = api.Span{From: f.Span.From + s.From, To: f.Span.To + s.From}
		x.Fields = append(x.Fields, f)
	}
	x.Active = wordsNumbers(x)[0]
	return x, 0
}

// wordsNumbers looks for the least number that is greater than the one before.
func wordsNumbers(x State) []int {
	var l []int
	zero := false
	for {
		least, is := 0, false
		for _, f := range x.Fields {
			zero = zero || f.N == 0
			if f.N != 0 && (len(l) == 0 || f.N > l[len(l)-1]) && (!is || f.N < least) {
				least, is = f.N, true
			}
		}
		if !is {
			break
		}
		l = append(l, least)
	}
	if zero {
		l = append(l, 0)
	}
	return l
}

func wordsNext(x State, back bool) (State, bool) {
	l := wordsNumbers(x)
	if back {
		slices.Reverse(l)
	}
	for i := range l {
		if l[i] == x.Active && i < len(l)-1 {
			return State{x.Text, x.Fields, l[i+1]}, true
		}
	}
	return x, false
}

func wordsCycle(x State, back bool) (State, api.Errno) {
	p := wordsPrimary(x.Fields, x.Active)
	if p == -1 || len(x.Fields[p].Choices) == 0 {
		return State{}, api.ErrNone
	}
	if !wordsRight(x) {
		return State{}, api.ErrArg
	}
	f := x.Fields[p]
	next := f.Choices[0]
	for i := len(f.Choices) - 1; i >= 0; i-- { // so that the first one counts
		if !slices.Equal(f.Choices[i], x.Text[f.Span.From:f.Span.To]) {
			continue
		}
		if back && i == 0 {
			next = f.Choices[len(f.Choices)-1]
		} else if back {
			next = f.Choices[i-1]
		} else if i == len(f.Choices)-1 {
			next = f.Choices[0]
		} else {
			next = f.Choices[i+1]
		}
	}
	return wordsEdit(x, []api.Edit{{At: f.Span.From, Del: f.Span.To - f.Span.From, Ins: next}})
}

// holdWords holds what a session is when it is edited, both ways.
func holdWords(t *testing.T, x State, l []api.Edit) (State, api.Errno) {
	t.Helper()
	y, e := Edit(x, l)
	z, f := wordsEdit(x, l)
	if e != f || !same(y, z) {
		t.Errorf("Edit(%s, %v): %s, %d, want %s, %d", told(x), l, told(y), e, told(z), f)
	}
	return y, e
}

// holdAllWords holds all that is asked of a session by itself, both ways.
func holdAllWords(t *testing.T, x State) {
	t.Helper()
	y, e := Settle(x)
	if z, f := wordsEdit(x, nil); e != f || !same(y, z) {
		t.Errorf("Settle(%s): %s, %d, want %s, %d", told(x), told(y), e, told(z), f)
	}
	if is := Right(x); is != wordsRight(x) {
		t.Errorf("Right(%s): %t", told(x), is)
	}
	if l := Numbers(x); !slices.Equal(l, wordsNumbers(x)) {
		t.Errorf("Numbers(%s): %v", told(x), l)
	}
	p := wordsPrimary(x.Fields, x.Active)
	if s, is := Span(x); is != (p != -1) || is && s != x.Fields[p].Span || !is && s != (api.Span{}) {
		t.Errorf("Span(%s): %v, %t", told(x), s, is)
	}
	for _, back := range []bool{false, true} {
		y, is := Next(x, back)
		if z, want := wordsNext(x, back); is != want || !same(y, z) {
			t.Errorf("Next(%s, %t): %s, %t, want %s, %t", told(x), back, told(y), is, told(z), want)
		}
		y, e := Cycle(x, back)
		if z, f := wordsCycle(x, back); e != f || !same(y, z) {
			t.Errorf("Cycle(%s, %t): %s, %d, want %s, %d", told(x), back, told(y), e, told(z), f)
		}
	}
}

// spansOf returns all spans in a text of a length.
func spansOf(length int) []api.Span {
	var l []api.Span
	for from := range length + 1 {
		for to := from; to <= length; to++ {
			l = append(l, api.Span{From: from, To: to})
		}
	}
	return l
}

// growing is a transform that never comes to an end where its text contains it.
var growing = transform.Transform{Pattern: []rune("a"), Format: []rune("b$0"), All: true}

// P16.2: all pairs of fields in texts of up to three runes, with all edits.

func TestAllPairs(t *testing.T) {
	for length := range 4 {
		spans := spansOf(length)
		for i, s := range spans {
			t.Run(fmt.Sprint(length, i), func(t *testing.T) {
				t.Parallel()
				for _, u := range spans {
					for kind := range 64 {
						x := State{[]rune("aba")[:length], []expand.Field{
							{N: 1, Span: s, Up: -1, Primary: kind&1 != 0, Turn: kind&2 != 0, T: growing},
							{N: 1 + kind>>5, Span: u, Up: kind>>4&1 - 1, Primary: kind&4 != 0, Turn: kind&8 != 0, T: growing},
						}, 1}
						holdEdits(t, x, spans)
						x.Active = 2
						holdEdits(t, x, spans)
					}
				}
			})
		}
	}
}

// holdEdits holds a session, edited by each edit of these spans.
func holdEdits(t *testing.T, x State, spans []api.Span) {
	t.Helper()
	holdWords(t, x, nil)
	for _, v := range spans {
		for _, s := range []string{"", "c", "ac"} {
			holdWords(t, x, []api.Edit{put(v.From, v.To-v.From, s)})
		}
	}
}

// All threes of fields in texts of up to two runes, at most one of them with
// Turn, settled, and with a rune inserted.
func TestAllThrees(t *testing.T) {
	for length := range 3 {
		spans := spansOf(length)
		for i, s := range spans {
			t.Run(fmt.Sprint(length, i), func(t *testing.T) {
				t.Parallel()
				for _, u := range spans {
					for _, v := range spans {
						holdThrees(t, []rune("ab")[:length], []api.Span{s, u, v})
					}
				}
			})
		}
	}
}

func holdThrees(t *testing.T, text []rune, spans []api.Span) {
	t.Helper()
	for _, numbers := range [][]int{{1, 1, 1}, {1, 1, 2}, {1, 2, 1}, {1, 2, 2}, {1, 2, 3}} {
		for _, ups := range [][]int{{-1, -1, -1}, {-1, -1, 0}, {-1, -1, 1}, {-1, 0, -1}, {-1, 0, 0}, {-1, 0, 1}} {
			for kind := range 32 {
				x := State{Text: text, Active: 1 + kind%2}
				for i := range 3 {
					x.Fields = append(x.Fields, expand.Field{N: numbers[i], Span: spans[i], Up: ups[i], Primary: kind>>i&1 != 0, Turn: kind>>3 == i, T: growing})
				}
				holdWords(t, x, nil)
				holdWords(t, x, []api.Edit{ins(kind%(len(text)+1), "c")})
			}
		}
	}
}

// lot draws numbers, the same ones each time.
type lot uint64

func (l *lot) draw(n int) int {
	*l = *l*6364136223846793005 + 1442695040888963407
	return int(uint64(*l)>>33) % n
}

func (l *lot) text(most int) []rune {
	var t []rune
	for range l.draw(most + 1) {
		t = append(t, rune('a'+l.draw(3)))
	}
	return t
}

// edits draws edits that are valid.
func (l *lot) edits(length int) []api.Edit {
	var all []api.Edit
	at := 0
	for range l.draw(4) {
		at += l.draw(length - at + 1)
		e := api.Edit{At: at, Ins: l.text(3)}
		if l.draw(2) == 0 {
			e.Del = l.draw(length - at + 1)
		}
		all = append(all, e)
		at += e.Del
	}
	return all
}

// turn draws a transform, which may be one that is not valid.
func (l *lot) turn() transform.Transform {
	list := []transform.Transform{
		growing,
		{Pattern: []rune("a|b"), Format: []rune("c")},
		{Pattern: []rune(".*"), Format: []rune("")},
		{Pattern: []rune("A(.*)"), Format: []rune("${1:/upcase}$1"), Fold: true},
		{Pattern: []rune("^.")},
		{Pattern: []rune("q")},
		{Format: []rune("c"), All: true},
	}
	if l.draw(150) == 0 {
		return transform.Transform{Pattern: []rune("(")}
	}
	return list[l.draw(len(list))]
}

// state draws a session, whose fields are in one another more often than not.
func (l *lot) state(longest, most int) State {
	x := State{Text: l.text(longest), Active: l.draw(4)}
	for i := range l.draw(most + 1) {
		f := expand.Field{N: l.draw(4), Up: -1, Primary: l.draw(2) == 0, Turn: l.draw(4) == 0, T: l.turn()}
		around := api.Span{From: 0, To: len(x.Text)}
		if i > 0 && l.draw(3) > 0 {
			f.Up = l.draw(i)
			if l.draw(8) > 0 {
				around = x.Fields[f.Up].Span
			}
		}
		f.Span.From = around.From + l.draw(around.To-around.From+1)
		f.Span.To = f.Span.From + l.draw(around.To-f.Span.From+1)
		for range l.draw(4) {
			f.Choices = append(f.Choices, l.text(2))
		}
		x.Fields = append(x.Fields, f)
	}
	return x
}

func TestDrawnStates(t *testing.T) {
	for n := range 8 {
		t.Run(fmt.Sprint(n), func(t *testing.T) {
			t.Parallel()
			l := lot(n)
			for range 3000 {
				x := l.state(12, 8)
				holdAllWords(t, x)
				for range 3 {
					holdWords(t, x, l.edits(len(x.Text)))
				}
			}
		})
	}
}

// Sessions whose texts are about as long as they may be.
func TestDrawnLongStates(t *testing.T) {
	l := lot(77)
	for range 1500 {
		x := l.state(8, 6)
		n := 1990 + l.draw(12)
		for len(x.Text) < n {
			x.Text = append(x.Text, 'z')
		}
		if l.draw(2) == 0 {
			for i := range x.Fields {
				x.Fields[i].Span.From += n - 8
				x.Fields[i].Span.To += n - 8
			}
		}
		holdAllWords(t, x)
		holdWords(t, x, l.edits(len(x.Text)))
	}
}

// States with something that is not valid, and edits that are not.
func TestDrawnFaults(t *testing.T) {
	l := lot(5)
	for range 30000 {
		x := l.state(6, 4)
		if len(x.Fields) > 0 {
			f := &x.Fields[l.draw(len(x.Fields))]
			switch l.draw(4) {
			case 0:
				f.Span.From = l.draw(9) - 1
			case 1:
				f.Span.To = l.draw(9) - 1
			case 2:
				f.Up = l.draw(6) - 2
			}
		}
		holdAllWords(t, x)
		e := l.edits(len(x.Text))
		if len(e) > 0 {
			e[l.draw(len(e))].At += l.draw(3) - 1
			e[l.draw(len(e))].Del += l.draw(3) - 1
		}
		holdWords(t, x, e)
	}
}
