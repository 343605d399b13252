package editor

import (
	"stylus/api"
	"stylus/undo"
)

// accept accepts the text as a line.
func (e *Editor) accept() api.Errno {
	e.line = e.log.Now().Text
	e.lines++
	if len(e.line) > 0 {
		// There is no error: a text has valid runes, and not too many.
		e.ring.Add(e.line)
	}
	return e.abort()
}

// abort begins with a new text.
func (e *Editor) abort() api.Errno {
	e.log = newLog()
	e.begun = nil
	e.place = e.ring.Len()
	e.draft = nil
	return api.OK
}

// older shows the nearest earlier line that begins with the draft, or, as a part,
// contains it.
func (e *Editor) older(part bool) api.Errno {
	if e.place == e.ring.Len() {
		e.draft = e.log.Now().Text
	}
	i, is := e.ring.Search(e.draft, part, e.place, true)
	if !is {
		return api.ErrNone
	}
	return e.show(i)
}

// newer shows the nearest later line that begins with the draft, or the draft
// itself behind the last one.
func (e *Editor) newer() api.Errno {
	if e.place == e.ring.Len() {
		return api.ErrNone
	}
	i, is := e.ring.Search(e.draft, false, e.place, false)
	if !is {
		return e.step(ending(e.draft))
	}
	return e.show(i)
}

// show shows the line of an entry of the ring, and makes its place the current one.
func (e *Editor) show(i int) api.Errno {
	line, _, _ := e.ring.Line(i) // no error: Search has found it there
	e.place = i
	return e.log.Do(undo.Step, ending(line))
}

// ending returns the state of a text with the caret at its end.
func ending(t []rune) undo.State {
	return undo.State{Text: t, Sels: []api.Sel{caret(len(t))}}
}
