package session

import (
	"fmt"
	"testing"

	"stylus/api"
	"stylus/expand"
	"stylus/snippet"
)

// snippet draws a snippet, with parts in one another up to a depth.
func (l *lot) snippet(deep int) string {
	s := ""
	for range 1 + l.draw(3) {
		n := l.draw(4)
		switch kind := l.draw(8); {
		case kind < 2 && deep > 0:
			s += fmt.Sprintf("${%d:%s}", n, l.snippet(deep-1))
		case kind < 3:
			s += fmt.Sprintf("${%d|%s,%s,ab|}", n, string(l.text(2)), string(l.text(2)))
		case kind < 4:
			s += fmt.Sprintf("${%d/%s/%s/%s}", n, []string{"a", "^.", ".*", "b|$"}[l.draw(4)], []string{"", "c", "$0a", "<$0>"}[l.draw(4)], []string{"", "g", "i"}[l.draw(3)])
		case kind < 5 && deep > 0:
			s += fmt.Sprintf("${%s:%s}", []string{"X", "Y", "E"}[l.draw(3)], l.snippet(deep-1))
		case kind < 7:
			s += fmt.Sprintf("$%d ", n)
		default:
			s += string(l.text(3))
		}
	}
	return s
}

// begin draws the session of a drawn snippet; false: there is none.
func (l *lot) begin(t *testing.T) (State, bool) {
	parts, _, e := snippet.Parse([]rune(l.snippet(3)))
	if e != api.OK {
		return State{}, false
	}
	text := l.text(6)
	s := api.Span{From: l.draw(len(text) + 1)}
	s.To = s.From + l.draw(len(text)-s.From+1)
	values := []expand.Value{{Name: []rune("X"), Text: l.text(3)}, {Name: []rune("E")}}
	x, e := Begin(text, s, parts, values)
	y, f := wordsBegin(text, s, parts, values)
	if e != f || !same(x, y) {
		t.Errorf("Begin(%q, %v, %q): %s, %d, want %s, %d", string(text), s, string(snippet.Print(parts)), told(x), e, told(y), f)
	}
	return x, e == api.OK
}

// near draws edits where the active number has its primary, or anywhere.
func (l *lot) near(x State) []api.Edit {
	s, is := Span(x)
	if !is || l.draw(4) == 0 {
		return l.edits(len(x.Text))
	}
	e := api.Edit{At: s.From + l.draw(s.To-s.From+1), Ins: l.text(2)}
	if l.draw(3) == 0 {
		e.Del = l.draw(s.To - e.At + 1)
	}
	return []api.Edit{e}
}

// step does something to a session, which is held both ways.
func (l *lot) step(t *testing.T, x State) State {
	t.Helper()
	y, e := x, api.OK
	back := l.draw(2) == 0
	switch l.draw(6) {
	case 0, 1:
		y, _ = Next(x, back)
	case 2:
		if y, e = Cycle(x, back); e == api.ErrNone {
			y, e = x, api.OK
		}
	case 3:
		y, e = Settle(x)
		if !same(y, x) {
			t.Errorf("Settle(%s): %s", told(x), told(y))
		}
	default:
		y, e = holdWords(t, x, l.near(x))
	}
	if e == api.ErrFull {
		return x
	}
	if e != api.OK {
		t.Errorf("%s: %d", told(x), e)
	}
	return y
}

// P16.4

func holdFine(t *testing.T, x State) {
	t.Helper()
	if !Right(x) || !wordsRight(x) || !wordsFine(x) {
		t.Errorf("%s", told(x))
	}
}

func TestWhateverIsDone(t *testing.T) {
	for n := range 8 {
		t.Run(fmt.Sprint(n), func(t *testing.T) {
			t.Parallel()
			l := lot(n + 100)
			for range 4000 {
				x, is := l.begin(t)
				if !is {
					continue
				}
				holdFine(t, x)
				for range 12 {
					x = l.step(t, x)
					holdFine(t, x)
				}
				holdAllWords(t, x)
			}
		})
	}
}

// Of sessions with a text that grows up to what there may be.
func TestWhateverIsDoneAtLength(t *testing.T) {
	l := lot(4)
	for range 150 {
		x, is := l.begin(t)
		if !is {
			continue
		}
		for i := range 40 {
			e := l.near(x)
			if i%3 == 0 && len(e) > 0 {
				e[0].Ins = long(l.draw(700))
			}
			if y, err := holdWords(t, x, e); err == api.OK {
				x = y
			} else if err != api.ErrFull {
				t.Errorf("Edit(%s, %v): %d", told(x), e, err)
			}
			holdFine(t, x)
		}
	}
}

// A session through all of its numbers, as it is typed.
func TestTyped(t *testing.T) {
	x := begun(t, "for ${1:i} in ${2:list}: ${1/i/I/g}$0")
	type change struct {
		at, del int
		s       string
	}
	for _, c := range []struct {
		next   bool
		change change
		want   string
	}{
		{false, change{4, 1, "k"}, "for k in list: k"},
		{false, change{5, 0, "i"}, "for ki in list: kI"},
		{true, change{10, 4, ""}, "for ki in : kI"},
		{false, change{10, 0, "a"}, "for ki in a: kI"},
		{false, change{11, 0, "b"}, "for ki in ab: kI"},
		{true, change{16, 0, ";"}, "for ki in ab: kI;"},
		{false, change{17, 0, "."}, "for ki in ab: kI;."},
		// Elsewhere, with the last number as the active one.
		{false, change{4, 2, "i"}, "for i in ab: ;."},
	} {
		if c.next {
			x, _ = Next(x, false)
		}
		y, e := Edit(x, []api.Edit{put(c.change.at, c.change.del, c.change.s)})
		if e != api.OK || string(y.Text) != c.want {
			t.Errorf("Edit(%s, %v): %s, %d, want %q", told(x), c.change, told(y), e, c.want)
		}
		holdFine(t, y)
		x = y
	}
}
