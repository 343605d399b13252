package editor

import (
	"strings"
	"testing"
)

// P24.2: CaretUp, CaretDown and One

func TestCaretUpAndDown(t *testing.T) {
	three := "abc" + line + "d" + line + "efgh"
	hold(t, nil,
		script{caretUp, "| !4"}, script{caretDown, "| !4"},
		script{"ab" + caretUp, "ab| !4"}, script{"ab" + caretDown, "ab| !4"},
		script{"ab" + lineStart + caretUp, "|ab !4"},
		// From the first one up, a line that is shorter than the column counts anew.
		script{three + caretUp, "abc\nd|\nefgh|"},
		script{three + caretUp + caretUp, "a|bc\nd|\nefgh|"},
		script{three + caretUp + caretUp + caretUp, "a|bc\nd|\nefgh| !4"},
		script{three + caretUp + caretDown, "abc\nd|\nefgh| !4"},
		script{three + lineStart + caretUp + caretUp, "|abc\n|d\n|efgh"},
		script{three + toStart + caretDown, "|abc\n|d\nefgh"},
		script{three + toStart + caretDown + caretDown, "|abc\n|d\n|efgh"},
		script{three + toStart + caretDown + caretDown + caretDown, "|abc\n|d\n|efgh !4"},
		script{three + toStart + lineEnd + caretDown, "abc|\nd|\nefgh"},
		script{three + toStart + lineEnd + caretDown + caretDown, "abc|\nd|\ne|fgh"},
		script{three + toStart + caretDown + caretUp, "|abc\n|d\nefgh !4"},
		script{three + up + caretUp + caretDown, "a|bc\nd|\ne|fgh"},
		script{three + up + caretDown + caretUp, "a|bc\nd|\ne|fgh"},
		// From the Head of a selection, which the caret may become part of.
		script{three + leftMore + caretUp, "abc\nd|\nefg<h]"},
		script{three + startMore + caretUp, "abc\n|d\n<efgh]"},
		script{three + upMore + caretUp, "a|bc\nd<\nefgh]"},
		script{three + upMore + caretDown, "abc\nd<\nefgh]"}, // e is in it already
		script{three + toStart + downMore + caretDown, "[abc\n>d\n|efgh"},
		script{three + toStart + downMore + caretUp, "[abc\n>d\nefgh"},
		script{three + toStart + downMore + downMore + caretUp, "[abc\nd\n>efgh"},
		script{three + toStart + endMore + caretDown, "[abc>\nd|\nefgh"},
		script{three + toStart + endMore + caretUp, "[abc>\nd\nefgh !4"},
		// It is Moved.
		script{three + caretUp + undone, "abc\nd\n|"},
		script{three + caretUp + undone + redone, "abc\nd|\nefgh|"},
		script{"a" + line + undone + caretUp + redone, "a\n|"},
		script{three + undone + up + caretDown + redone, "abc\nd\nefgh|"},
		// They edit at once.
		script{three + caretUp + caretUp + "xy", "axy|bc\ndxy|\nefghxy|"},
		script{three + caretUp + caretUp + back + back, "|bc|\nef|"},
	)
	hold(t, func(p *pair) { p.allNames() },
		script{"a" + line + "fn" + tab + caretUp, "a\nfunc [name>(a) { name } /1 !4"},
		script{"a" + line + "fn" + tab + up + caretDown, "a|\nfunc name(a) { name } /1 !4"},
		script{"a" + line + "fn" + tab + one + caretUp, "a|\nfunc [name>(a) { name }"},
	)
}

// As many selections as there may be, and one more
func TestManyCarets(t *testing.T) {
	lines := strings.Repeat(line, 17)
	p := newPair(t).feed(lines)
	for range 15 {
		p.feed(caretUp)
	}
	all := "\n\n" + strings.Repeat("|\n", 15) + "|"
	p.is("carets", all)
	p.want(caretUp, all+" !3").want(caretDown, all+" !4").want("x", "\n\n"+strings.Repeat("x|\n", 15)+"x|")
	p.want(left+caretUp, "\n\n"+strings.Repeat("|x\n", 15)+"|x !3").want(one, "\n\n|x"+strings.Repeat("\nx", 15))
	p.want(caretUp, "\n|\n|x"+strings.Repeat("\nx", 15))
	q := newPair(t).feed(lines + toStart)
	for range 15 {
		q.feed(caretDown)
	}
	all = strings.Repeat("|\n", 16) + "\n"
	q.is("carets", all)
	q.want(caretDown, all+" !3").want(caretUp, all+" !4").want(undone, strings.Repeat("\n", 16)+"|").want(redone, all)
	// One that merges with others needs no room.
	r := newPair(t).feed(lines + toStart + caretDown)
	for range 14 {
		r.feed(caretDown)
	}
	r.want(rightMore, "[\n\n\n\n\n\n\n\n\n\n\n\n\n\n\n\n>\n").want(caretDown, "[\n\n\n\n\n\n\n\n\n\n\n\n\n\n\n\n>\n|")
}

func TestOne(t *testing.T) {
	hold(t, func(p *pair) { p.allNames() },
		script{one, "|"},
		script{"ab" + one, "ab|"},
		script{"ab" + leftMore + one, "a|b"},
		script{"ab" + toStart + rightMore + one, "a|b"},
		script{"ab" + line + "cd" + caretUp + one, "ab|\ncd"},
		script{"ab" + line + "cd" + caretUp + leftMore + one, "a|b\ncd"},
		script{"ab" + line + "cd" + caretUp + leftMore + one + one, "a|b\ncd"},
		script{"ab" + line + "cd" + caretUp + one + "x" + undone, "ab|\ncd"},
		script{"ab" + line + undone + leftMore + one + redone, "ab\n|"},
		// A session that is open is closed, and the selections stay.
		script{"fn" + tab + one, "func [name>(a) { name }"},
		script{"fn" + tab + one + one, "func name|(a) { name }"},
		script{"fn" + tab + one + "x", "func x|(a) { name }"},
		script{"fn" + tab + one + tab, "func [name>(a) { name } !4"},
		script{"fn" + tab + one + field, "func [name>(a) { name } !4"},
		script{"fn" + tab + "x" + one, "func x|(a) { x }"},
		script{"fn" + tab + "x" + one + "y", "func xy|(a) { x }"},
		script{"fn" + tab + "x" + undone + one + redone, "func x|(a) { x } /1"},
	)
	// Escape
	p := newPair(t).feed("ab"+leftMore+"\x1b").is("escape", "a<b]")
	p.flush().is("flush", "a|b")
}
