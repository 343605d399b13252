package editor

import (
	"strings"
	"testing"

	"stylus/keys"
	"stylus/undo"
)

// P24.2: Undo and Redo, and what is Typed, Step and Moved

func TestRuns(t *testing.T) {
	hold(t, nil,
		script{undone, "| !4"},
		script{redone, "| !4"},
		// A run is one group.
		script{"ab" + undone, "|"},
		script{"ab" + undone + undone, "| !4"},
		script{"ab" + undone + redone, "ab|"},
		script{"ab" + undone + redone + redone, "ab| !4"},
		script{"abcdefgh" + undone + redone + undone, "|"},
		// A Step in its midst.
		script{"ab" + line + "cd" + undone, "ab\n|"},
		script{"ab" + line + "cd" + undone + undone, "ab|"},
		script{"ab" + line + "cd" + undone + undone + undone, "|"},
		script{"ab" + line + "cd" + undone + undone + undone + redone + redone + redone, "ab\ncd|"},
		script{"ab" + back + "c" + undone, "a|"},
		script{"ab" + back + "c" + undone + undone, "ab|"},
		script{"ab" + back + "c" + undone + undone + undone, "|"},
		script{"ab" + transpose + "c" + undone + undone, "ab|"},
		script{"ab" + lineStart + killWord + "c" + yank + "d" + undone, "cab|"},
		script{"ab" + lineStart + killWord + "c" + yank + "d" + undone + undone, "c|"},
		script{"ab" + lineStart + killWord + "c" + yank + "d" + undone + undone + undone, "|"},
		script{"ab" + lineStart + killWord + "c" + yank + "d" + undone + undone + undone + undone, "|ab"},
		script{line + line + undone, "\n|"},
		script{"ab" + back + back + undone, "a|"},
		// Moved in its midst: the new state takes the place of the one before.
		script{"ab" + left + "c" + undone, "a|b"},
		script{"ab" + left + "c" + undone + undone, "|"},
		script{"ab" + left + "c" + undone + redone, "ac|b"},
		script{"ab" + right + "c" + undone, "ab|"}, // also if nothing moves
		script{"ab" + one + "c" + undone, "ab|"},
		script{"ab" + leftMore + "c" + undone, "a<b]"},
		script{"a" + line + "b" + caretUp + "c" + undone, "a|\nb|"},
		script{"a" + line + "b" + caretUp + one + "c" + undone, "a|\nb"},
		// Undo and Redo in its midst.
		script{"ab" + undone + "c" + undone, "|"},
		script{"ab" + undone + redone + "c" + undone, "ab|"},
		script{"ab" + line + undone + "c" + undone, "ab|"},
		// What has an error, changes nothing or is no command does not end it.
		script{"ab" + redone + "c" + undone, "|"},
		script{"ab" + yank + "c" + undone, "|"},
		script{"ab" + tab + "c" + undone, "|"},
		script{"ab" + field + "c" + undone, "|"},
		script{"ab" + choice + other + "c" + undone, "|"},
		script{"ab" + caretUp + caretDown + "c" + undone, "|"},
		script{"ab" + older + newer + search + "c" + undone, "|"},
		script{"ab" + del + "c" + undone, "|"},
		script{"ab" + killWord + killLine + "c" + undone, "|"},
		script{"a" + transpose + "c" + undone, "|"},
		script{"ab" + noKey + "c" + undone, "|"},
		// At several carets.
		script{"a" + line + "b" + caretUp + "cd" + undone, "a|\nb|"},
		script{"a" + line + "b" + caretUp + "cd" + undone + undone, "a\n|"},
		script{"a" + line + "b" + caretUp + "cd" + undone + redone, "acd|\nbcd|"},
	)
}

func TestLaterStates(t *testing.T) {
	hold(t, nil,
		// They stay where it is Moved, where nothing is done, and with an error.
		script{"ab" + line + undone + left + redone, "ab\n|"},
		script{"ab" + line + undone + left + redone + undone, "a|b"},
		script{"ab" + line + undone + leftMore + one + redone, "ab\n|"},
		script{"ab" + line + undone + del + redone, "ab\n|"},
		script{"ab" + line + undone + yank + tab + older + redone, "ab\n|"},
		script{"ab" + undone + left + undone + redone, "ab|"},
		script{"ab" + undone + back + redone, "ab|"},
		// They go with what is Typed or Step.
		script{"ab" + line + undone + "c" + redone, "abc| !4"},
		script{"ab" + line + undone + back + redone, "a| !4"},
		script{"ab" + undone + "c" + redone + undone + redone, "c|"},
		script{"ab" + undone + line + redone, "\n| !4"},
		script{"ab" + enter + "c" + undone + older + redone, "ab| !4"},
	)
}

// At most 50 groups are undone.
func TestManyUndone(t *testing.T) {
	p := newPair(t).feed(strings.Repeat(line, 53))
	for i := range 50 {
		p.want(undone, strings.Repeat("\n", 52-i)+"|")
	}
	p.want(undone, "\n\n\n| !4")
	for i := range 50 {
		p.want(redone, strings.Repeat("\n", 4+i)+"|")
	}
	p.want(redone, strings.Repeat("\n", 53)+"| !4")
	p.thereAndBack()
	p.want("ab"+undone+back, strings.Repeat("\n", 52)+"|")
	p.thereAndBack()
}

// T4, of each number of groups, with all that is seen on the way.
func TestRedoneAsOftenAsUndone(t *testing.T) {
	for n := range 56 {
		p := newPair(t).allNames()
		for i := range n {
			p.feed([]string{"a", line, " fn" + tab, "x" + tab, choice, left + "b", "\x1b>" + line, older, " m" + tab, "ab", tab + killWord, yank}[i%12])
		}
		p.thereAndBack()
		size := p.words.size()[0]
		for k := range size + 1 {
			s := p.typed.See()
			x, is := p.typed.Open()
			for range k {
				p.both(keys.Key{Kind: keys.Char, Rune: 'z', Mods: 4})
			}
			for range k {
				p.both(keys.Key{Kind: keys.Char, Rune: 'x', Mods: 4})
			}
			now := p.typed.See()
			now.Code = s.Code
			if y, open := p.typed.Open(); !sameSeen(s, now) || is != open || !sameSession(x, y) {
				t.Errorf("%d of %d: %s, want %s", k, size, told(now, y, open), told(s, x, is))
			}
		}
	}
}

// What is undone has its session.
func TestUndoneSessions(t *testing.T) {
	const begun = "func [name>(a) { name } /1"
	hold(t, func(p *pair) { p.allNames() },
		script{"fn" + tab + undone, "fn|"},
		script{"fn" + tab + undone + redone, begun},
		script{"fn" + tab + undone + redone + "go", "func go|(a) { go } /1"},
		script{"fn" + tab + "go" + undone, begun},
		script{"fn" + tab + "go" + undone + undone, "fn|"},
		script{"fn" + tab + "go" + undone + redone, "func go|(a) { go } /1"},
		script{"fn" + tab + "go" + undone + "a", "func a|(a) { a } /1"},
		// A number that became active is part of the state that Moved made.
		script{"fn" + tab + "go" + tab + undone, begun},
		script{"fn" + tab + "go" + tab + undone + redone, "func go([a>) { go } /2"},
		script{"fn" + tab + tab + undone, "fn|"},
		script{"fn" + tab + tab + undone + redone, "func name([a>) { name } /2"},
		script{"fn" + tab + tab + "c" + field + "d" + undone, "func [name>(c) { name } /1"},
		script{"fn" + tab + tab + "c" + field + "d" + undone + undone, "func name([a>) { name } /2"},
		script{"fn" + tab + tab + "c" + field + "d" + undone + undone + redone, "func [name>(c) { name } /1"},
		script{"fn" + tab + tab + choice + undone, "func name([a>) { name } /2"},
		script{"fn" + tab + tab + choice + undone + redone, "func name([b>) { name } /2"},
		// One that is closed.
		script{"fn" + tab + one + undone, "fn|"},
		script{"fn" + tab + one + undone + redone, "func [name>(a) { name }"},
		script{"fn" + tab + "go" + one + undone, begun},
		script{"fn" + tab + "go" + one + undone + redone, "func go|(a) { go }"},
		script{"fn" + tab + "go" + tab + tab + undone, begun},
		script{"fn" + tab + "go" + tab + tab + undone + redone, "func go(a) { go }|"},
		script{"fn" + tab + one + "x" + undone, "func [name>(a) { name }"},
		script{"ab" + enter + "fn" + tab + back + abort + undone, "| !4"},
		// One in place of which a line was shown.
		script{" fn" + enter + "fn" + tab + one + enter + " fn" + tab + one, " func [name>(a) { name }"},
		// Several ones, each with its own fields.
		script{"fn" + tab + one + toEnd + " in" + tab, "func name(a) { name } [abcx> bx /1"},
		script{"fn" + tab + one + toEnd + " in" + tab + "q" + undone, "func name(a) { name } [abcx> bx /1"},
		script{"fn" + tab + one + toEnd + " in" + tab + tab + tab + choice + undone, "func name(a) { name } abc[x> bx /3"},
		script{"fn" + tab + "x" + one + toEnd + " in" + tab + "q" + undone + undone, "func x(a) { x } in|"},
		script{"fn" + tab + "x" + one + toEnd + " in" + tab + "q" + undone + undone + undone, "func x(a) { x }|"},
		script{"fn" + tab + "x" + one + toEnd + " in" + tab + "q" + undone + undone + undone + undone, begun},
		script{"fn" + tab + "x" + one + toEnd + " in" + tab + "q" + undone + undone + undone + undone + "y" + tab + choice, "func y([b>) { y } /2"},
		script{"fn" + tab + "x" + one + toEnd + " in" + tab + "q" + undone + undone + undone + undone + redone + redone + redone + redone, "func x(a) { x } q|  /1"},
	)
}

// The place in the ring goes back to its end by Undo and Redo, but not with an error.
func TestPlaceWhenUndone(t *testing.T) {
	ring := "ab" + enter + "ac" + enter
	hold(t, nil,
		script{ring + older + undone, "|"},
		script{ring + older + undone + older, "ac|"},
		script{ring + older + undone + newer, "| !4"},
		script{ring + older + older + undone, "ac|"},
		script{ring + older + older + undone + newer, "ac| !4"},
		script{ring + older + older + undone + older, "ac|"}, // the draft is ac now
		script{ring + older + older + undone + redone, "ab|"},
		script{ring + older + older + undone + redone + newer, "ab| !4"},
		script{ring + older + redone, "ac| !4"},
		script{ring + older + redone + older, "ab|"},
		script{ring + older + redone + newer, "|"},
	)
}

// numbers returns those of the sessions that are open in states of the log.
func numbers(l *undo.Log) map[int]bool {
	all := map[int]bool{l.Now().Session: true}
	n := 0
	for l.Undo() {
		all[l.Now().Session] = true
		n++
	}
	for range n {
		l.Redo()
	}
	delete(all, 0)
	return all
}

// A session is kept as long as a state of the log has it. Others are gone when the
// next one is opened.
func TestSessionsThatAreKept(t *testing.T) {
	for _, c := range []struct {
		behind string
		most   int
	}{
		{one, 1}, {"q" + one, 17}, {tab + tab, 1}, {"q" + tab + tab, 17}, {tab + choice + choice + one, 13}, {undone, 1}, {undone + redone + one, 1}, {"q" + back + one, 13},
	} {
		p := newPair(t).allNames()
		for range 70 {
			p.feed(toEnd + " fn" + tab)
			for _, e := range []*Editor{p.typed, p.fed} {
				used := numbers(e.log)
				if len(used) != len(e.begun) || len(used) > c.most {
					t.Fatalf("%q: %d sessions, %d are kept", c.behind, len(used), len(e.begun))
				}
				for n := range used {
					if len(e.begun[n]) == 0 {
						t.Errorf("%q: no fields of %d", c.behind, n)
					}
				}
			}
			p.feed(c.behind)
		}
		p.thereAndBack()
		p.feed(abort)
		if n := len(p.typed.begun); n != 0 {
			t.Errorf("%q: %d sessions", c.behind, n)
		}
		p.want("fn"+tab, "func [name>(a) { name } /1")
	}
}
