package editor

import (
	"slices"

	"stylus/api"
	"stylus/marks"
	"stylus/multi"
	"stylus/session"
	"stylus/undo"
)

// edit is a command of package multi, with the runes that it inserts, and the
// kind of its change.
type edit struct {
	kind   int
	ins    []rune
	change int
}

// edit edits at all selections, or, if a session is open, its fields.
func (e *Editor) edit(c edit) api.Errno {
	s := e.log.Now()
	if x, is := e.opened(s); is {
		return e.editFields(c, s, x)
	}
	d, err := multi.Do(c.kind, s.Text, s.Sels, c.ins)
	if err != api.OK {
		return err
	}
	if slices.Equal(d.Text, s.Text) && slices.Equal(d.Sels, s.Sels) {
		return api.OK
	}
	return e.edited(c, d.Killed, undo.State{Text: d.Text, Sels: d.Sels})
}

// editFields edits the session that is open in a state, at its first selection.
func (e *Editor) editFields(c edit, s undo.State, x session.State) api.Errno {
	// There is no error: the runes are valid, and the selection is in the text.
	change, at, _ := multi.At(c.kind, s.Text, s.Sels[0], c.ins)
	if change.Del == 0 && len(change.Ins) == 0 {
		return api.OK
	}
	y, err := session.Edit(x, []api.Edit{change})
	if err != api.OK {
		return err
	}
	killed := slices.Clone(s.Text[change.At : change.At+change.Del])
	return e.edited(c, killed, stateOf(y, s.Session, caret(settled(at, change, x, y))))
}

// settled returns where the caret of an edit is when the fields have settled: as
// far in the active primary as the edit left it there, or where it was left.
func settled(at int, change api.Edit, before, after session.State) int {
	old, _ := session.Span(before)
	// There is no error: the span and the edit are within the text.
	moved, _ := marks.Move(marks.Range{Span: old, Left: true, Right: true}, change)
	if at < moved.From || at > moved.To || len(after.Fields) == 0 {
		return min(at, len(after.Text))
	}
	now, _ := session.Span(after)
	return min(now.From+at-moved.From, now.To)
}

// edited makes the change that an edit comes to. To kill nothing is none, so that
// what was killed last stays then.
func (e *Editor) edited(c edit, killed []rune, s undo.State) api.Errno {
	if c.kind == multi.KillWord || c.kind == multi.KillLine {
		e.killed = killed
	}
	e.place = e.ring.Len()
	return e.log.Do(c.change, s)
}

// yank inserts what was killed last.
func (e *Editor) yank() api.Errno {
	if len(e.killed) == 0 {
		return api.ErrNone
	}
	return e.edit(edit{multi.Insert, e.killed, undo.Step})
}
