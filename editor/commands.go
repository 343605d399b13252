package editor

import (
	"stylus/api"
	"stylus/keymap"
	"stylus/keys"
	"stylus/motion"
	"stylus/multi"
	"stylus/sels"
	"stylus/undo"
)

// newLine is what Newline inserts.
const newLine = 10

// command does what a command is for, and returns the error. With an error, it
// changes nothing.
type command func() api.Errno

// commands returns what the commands do, if the key is the one that was read.
func (e *Editor) commands(k keys.Key) map[int]command {
	step := func(kind int, ins ...rune) command {
		return func() api.Errno { return e.edit(edit{kind, ins, undo.Step}) }
	}
	all := map[int]command{
		keymap.Insert:    func() api.Errno { return e.edit(edit{multi.Insert, []rune{k.Rune}, undo.Typed}) },
		keymap.Newline:   step(multi.Insert, newLine),
		keymap.Accept:    func() api.Errno { return e.accept() },
		keymap.Abort:     func() api.Errno { return e.abort() },
		keymap.DelLeft:   step(multi.DelLeft),
		keymap.DelRight:  step(multi.DelRight),
		keymap.KillWord:  step(multi.KillWord),
		keymap.KillLine:  step(multi.KillLine),
		keymap.Transpose: step(multi.Transpose),
		keymap.Yank:      func() api.Errno { return e.yank() },
		keymap.Undo:      func() api.Errno { return e.gone(e.log.Undo()) },
		keymap.Redo:      func() api.Errno { return e.gone(e.log.Redo()) },
		keymap.Expand:    func() api.Errno { return e.expand() },
		keymap.Field:     func() api.Errno { return e.goBack() },
		keymap.Choice:    func() api.Errno { return e.cycle(false) },
		keymap.Other:     func() api.Errno { return e.cycle(true) },
		keymap.CaretUp:   func() api.Errno { return e.addCaret(motion.Up) },
		keymap.CaretDown: func() api.Errno { return e.addCaret(motion.Down) },
		keymap.One:       func() api.Errno { return e.one() },
		keymap.Older:     func() api.Errno { return e.older(false) },
		keymap.Search:    func() api.Errno { return e.older(true) },
		keymap.Newer:     func() api.Errno { return e.newer() },
	}
	for kind := motion.Left; kind <= motion.End; kind++ {
		all[keymap.Move+kind] = func() api.Errno { return e.move(kind, false) }
		all[keymap.Extend+kind] = func() api.Errno { return e.move(kind, true) }
	}
	return all
}

// move moves the selections.
func (e *Editor) move(kind int, extend bool) api.Errno {
	s := e.log.Now()
	s.Sels = motion.All(kind, s.Text, s.Sels, extend)
	return e.log.Do(undo.Moved, s)
}

// gone ends Undo and Redo, if the log could do so.
func (e *Editor) gone(is bool) api.Errno {
	if !is {
		return api.ErrNone
	}
	e.place = e.ring.Len()
	return api.OK
}

// addCaret adds a caret above the first one, or below the last one.
func (e *Editor) addCaret(kind int) api.Errno {
	s := e.log.Now()
	from := s.Sels[0].Head
	if kind == motion.Down {
		from = s.Sels[len(s.Sels)-1].Head
	}
	to := motion.Move(kind, s.Text, from)
	if s.Session != 0 || to == from {
		return api.ErrNone
	}
	more, err := sels.Add(s.Sels, caret(to), len(s.Text))
	if err != api.OK {
		return err
	}
	s.Sels = more
	return e.log.Do(undo.Moved, s)
}

// one closes the session that is open; if there is none, it leaves but one caret.
func (e *Editor) one() api.Errno {
	s := e.log.Now()
	if s.Session != 0 {
		s = closed(s)
	} else {
		s.Sels = []api.Sel{caret(s.Sels[0].Head)}
	}
	return e.log.Do(undo.Moved, s)
}

// step makes a state the current one, as a group of its own behind which the
// history begins at its end again.
func (e *Editor) step(s undo.State) api.Errno {
	e.place = e.ring.Len()
	return e.log.Do(undo.Step, s)
}

// newLog returns a log as it is at first.
func newLog() *undo.Log {
	return undo.New(undo.State{Sels: []api.Sel{caret(0)}})
}

// caret returns the selection that is but a caret.
func caret(at int) api.Sel {
	return api.Sel{Anchor: at, Head: at}
}
