package multi

import (
	"stylus/api"
	"stylus/motion"
	"stylus/sels"
)

// text is what a command edits.
type text []rune

// command makes the edit of a command of a text at a selection within it.
type command func(t text, s api.Sel, ins []rune) api.Edit

// commands returns the commands of all kinds.
func commands() map[int]command {
	return map[int]command{
		Insert:    text.insert,
		DelLeft:   text.delLeft,
		DelRight:  text.delRight,
		KillWord:  text.killWord,
		KillLine:  text.killLine,
		Transpose: text.transpose,
	}
}

func (t text) insert(s api.Sel, ins []rune) api.Edit {
	e := removal(s)
	e.Ins = append(e.Ins, ins...)
	return e
}

func (t text) delLeft(s api.Sel, _ []rune) api.Edit {
	return removal(t.orTo(motion.Left, s))
}

func (t text) delRight(s api.Sel, _ []rune) api.Edit {
	return removal(t.orTo(motion.Right, s))
}

func (t text) killWord(s api.Sel, _ []rune) api.Edit {
	return removal(t.orTo(motion.WordRight, s))
}

func (t text) killLine(s api.Sel, _ []rune) api.Edit {
	// The selection is still empty after LineEnd if its place is the end of its
	// line.
	return removal(t.orTo(motion.Right, t.orTo(motion.LineEnd, s)))
}

func (t text) transpose(s api.Sel, _ []rune) api.Edit {
	first := s.Head - 1
	if s.Head == len(t) {
		first--
	}
	if first < 0 {
		return api.Edit{At: s.Head}
	}
	return api.Edit{At: first, Del: 2, Ins: []rune{t[first+1], t[first]}}
}

// orTo returns a selection as it is, or, if it is empty, from its place to where
// that moves.
func (t text) orTo(kind int, s api.Sel) api.Sel {
	if s.Anchor == s.Head {
		s.Head = motion.Move(kind, t, s.Head)
	}
	return s
}

// removal returns the edit that removes the span of a selection.
func removal(s api.Sel) api.Edit {
	x := sels.Span(s)
	return api.Edit{At: x.From, Del: x.To - x.From}
}
