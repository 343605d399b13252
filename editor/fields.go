package editor

import (
	"slices"

	"stylus/api"
	"stylus/expand"
	"stylus/session"
	"stylus/undo"
)

// opened returns the session that is open in a state, if there is one. Of its
// fields, the Choices and transforms are those that the editor keeps.
func (e *Editor) opened(s undo.State) (session.State, bool) {
	if s.Session == 0 {
		return session.State{}, false
	}
	x := session.State{Text: s.Text, Fields: slices.Clone(e.begun[s.Session])}
	for i, rest := range s.Spans[len(x.Fields):] {
		x.Fields[i].Span = s.Spans[i]
		x.Fields[i].Up, x.Active = rest.From, rest.To
	}
	return x, true
}

// stateOf returns the state of a session with a number, which is open unless it
// has no fields.
func stateOf(x session.State, number int, s api.Sel) undo.State {
	var spans, rest []api.Span
	for _, f := range x.Fields {
		spans = append(spans, f.Span)
		rest = append(rest, api.Span{From: f.Up, To: x.Active})
	}
	y := undo.State{
		Text:    x.Text,
		Sels:    []api.Sel{s},
		Session: number,
		Spans:   append(spans, rest...),
	}
	if len(x.Fields) == 0 {
		return closed(y)
	}
	return y
}

// fieldSpans returns the spans of the fields of the session that is open in a
// state.
func fieldSpans(s undo.State) []api.Span {
	return slices.Clone(s.Spans[:len(s.Spans)/2])
}

// closed returns a state without an open session.
func closed(s undo.State) undo.State {
	s.Session, s.Spans = 0, nil
	return s
}

// selected returns the active primary as a selection, or a caret at 0 if there
// is none.
func selected(x session.State) api.Sel {
	s, _ := session.Span(x)
	return api.Sel{Anchor: s.From, Head: s.To}
}

// expand goes on in the session that is open, or begins one.
func (e *Editor) expand() api.Errno {
	s := e.log.Now()
	if x, is := e.opened(s); is {
		return e.goOn(s, x)
	}
	return e.begin(s)
}

// goOn makes the next number active. 0 is the last one, behind which the session
// is closed.
func (e *Editor) goOn(s undo.State, x session.State) api.Errno {
	x, is := session.Next(x, false)
	if !is {
		return e.log.Do(undo.Moved, closed(s))
	}
	s = stateOf(x, s.Session, selected(x))
	if x.Active == 0 {
		s = closed(s)
	}
	return e.log.Do(undo.Moved, s)
}

// goBack makes the previous number active.
func (e *Editor) goBack() api.Errno {
	s := e.log.Now()
	x, _ := e.opened(s)
	x, is := session.Next(x, true)
	if !is {
		return api.ErrNone
	}
	return e.log.Do(undo.Moved, stateOf(x, s.Session, selected(x)))
}

// cycle gives the active primary another one of its choices.
func (e *Editor) cycle(back bool) api.Errno {
	s := e.log.Now()
	x, _ := e.opened(s)
	x, err := session.Cycle(x, back)
	if err != api.OK {
		return err
	}
	return e.step(stateOf(x, s.Session, selected(x)))
}

// begin replaces the abbreviation before the only caret by its expansion.
func (e *Editor) begin(s undo.State) api.Errno {
	at := s.Sels[0].Head
	if len(s.Sels) > 1 || s.Sels[0] != caret(at) {
		return api.ErrNone
	}
	name, is := e.table.Ahead(s.Text, at)
	if !is {
		return api.ErrNone
	}
	parts, _ := e.table.Get(name) // no error: Ahead has found it there
	x, err := session.Begin(s.Text, api.Span{From: at - len(name), To: at}, parts, e.values)
	if err != api.OK {
		return err
	}
	return e.open(x)
}

// open opens a session that began, unless it is at its last number already.
func (e *Editor) open(x session.State) api.Errno {
	if x.Active == 0 {
		return e.step(closed(stateOf(x, 0, selected(x))))
	}
	e.last++
	err := e.step(stateOf(x, e.last, selected(x)))
	e.keep(x.Fields)
	return err
}

// keep keeps the fields of the session that was opened last, and of those others
// that a state of the log still has. To go through the log does no harm here:
// there are no later states, and no run is open.
func (e *Editor) keep(fields []expand.Field) {
	kept := map[int][]expand.Field{e.last: fields}
	back := 0
	for e.log.Undo() {
		back++
		if n := e.log.Now().Session; n != 0 {
			kept[n] = e.begun[n]
		}
	}
	for range back {
		e.log.Redo()
	}
	e.begun = kept
}

// copied returns a field in memory of its own.
func copied(f expand.Field) expand.Field {
	f.Choices = slices.Clone(f.Choices)
	for i := range f.Choices {
		f.Choices[i] = slices.Clone(f.Choices[i])
	}
	f.T.Pattern = slices.Clone(f.T.Pattern)
	f.T.Format = slices.Clone(f.T.Format)
	return f
}
