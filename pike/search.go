package pike

import "stylus/api"

// thread is a way through the instructions, up to the one that it tries next.
type thread struct {
	inst  int
	marks marks
}

// search looks for a text in which instructions succeed. Its lists begin with
// what is tried first.
type search struct {
	list  []Inst
	text  []rune
	fold  bool
	tried []int    // for each instruction the last place at which it was tried, plus 1
	now   []thread // the threads that ask for the rune before a place
	next  []thread // the threads that ask for the rune at a place
	open  []thread // the threads that are still to be tried at a place, the first one at the end
	found bool
	marks marks // of the first way that succeeds, among those that have ended
}

// run goes through the text once, with the threads of all starts side by side.
// They can share what was tried: as long as an earlier start has not succeeded,
// what it tried leads nowhere for a later one either.
func (s *search) run(from int) {
	for at := from; at <= len(s.text); at++ {
		s.step(at)
		if !s.found {
			s.try(thread{marks: unset()}, at)
		}
		if s.found && len(s.next) == 0 {
			return
		}
		s.now, s.next = s.next, s.now[:0]
	}
}

// step takes the threads over the rune before a place. A thread that succeeds
// ends those behind it, which are tried only if it fails.
func (s *search) step(at int) {
	for _, t := range s.now {
		if s.list[t.inst].matches(s.text[at-1], s.fold) && s.try(thread{t.inst + 1, t.marks}, at) {
			return
		}
	}
}

// try follows a thread as far as it goes at a place, and reports whether it
// succeeds there. The ways that are still open wait in a list, not in calls,
// since instructions may lead through any number of others.
func (s *search) try(first thread, at int) bool {
	s.open = append(s.open[:0], first)
	for len(s.open) > 0 {
		t := s.open[len(s.open)-1]
		s.open = s.open[:len(s.open)-1]
		if !s.enter(t.inst, at) {
			continue
		}
		if s.list[t.inst].Kind == Done {
			s.found, s.marks = true, t.marks
			return true
		}
		s.follow(t, at)
	}
	return false
}

// enter reports whether there is such an instruction that was not yet tried at
// a place.
func (s *search) enter(inst, at int) bool {
	if inst < 0 || inst >= len(s.list) || s.tried[inst] == at+1 {
		return false
	}
	s.tried[inst] = at + 1
	return true
}

// follow puts a thread into the list of what it tries next.
func (s *search) follow(t thread, at int) {
	x := s.list[t.inst]
	switch x.Kind {
	case One:
		s.next = append(s.next, t)
	case Two:
		s.open = append(s.open, thread{x.Y, t.marks}, thread{x.X, t.marks})
	case Go:
		s.open = append(s.open, thread{x.X, t.marks})
	case Mark:
		if x.N >= 0 && x.N < len(t.marks) {
			t.marks[x.N] = at
			s.open = append(s.open, thread{t.inst + 1, t.marks})
		}
	case AtBegin:
		if at == 0 {
			s.open = append(s.open, thread{t.inst + 1, t.marks})
		}
	case AtEnd:
		if at == len(s.text) {
			s.open = append(s.open, thread{t.inst + 1, t.marks})
		}
	}
}

// matches reports whether a rune is what a One asks for.
func (x Inst) matches(r rune, fold bool) bool {
	n := int(r)
	in := inside(n, x.Spans)
	if fold && !in {
		in = inside(otherCase(n), x.Spans)
	}
	return in != x.Not
}

func inside(n int, l []api.Span) bool {
	for _, s := range l {
		if s.From <= n && n <= s.To {
			return true
		}
	}
	return false
}

// otherCase returns the other case of a letter, and any other rune as it is.
func otherCase(n int) int {
	switch {
	case n >= 'A' && n <= 'Z':
		return n + ('a' - 'A')
	case n >= 'a' && n <= 'z':
		return n - ('a' - 'A')
	}
	return n
}

// unset returns the marks of a thread that has set none yet.
func unset() marks {
	var m marks
	for i := range m {
		m[i] = -1
	}
	return m
}

// spans returns the spans of all groups. A group of which one end is not set
// has none.
func spans(m marks) []api.Span {
	l := make([]api.Span, groups)
	for i := range l {
		l[i] = api.Span{From: m[2*i], To: m[2*i+1]}
		if l[i].From < 0 || l[i].To < 0 {
			l[i] = api.Span{From: -1, To: -1}
		}
	}
	return l
}
