package undo

import (
	"slices"

	"stylus/api"
)

// stack keeps at most api.MaxUndo items, the newest one last.
type stack[T any] struct{ items []T }

// push puts an item on top, and drops the oldest one if there are too many.
func (s *stack[T]) push(x T) {
	s.items = append(s.items, x)
	if len(s.items) > api.MaxUndo {
		s.items = slices.Delete(s.items, 0, 1)
	}
}

// pop takes the item on top away, if there is one.
func (s *stack[T]) pop() (T, bool) {
	var none T
	last := len(s.items) - 1
	if last < 0 {
		return none, false
	}
	x := s.items[last]
	s.items[last] = none // so that the memory behind the end keeps nothing alive
	s.items = s.items[:last]
	return x, true
}

// size returns how many items there are.
func (s *stack[T]) size() int {
	return len(s.items)
}

// empty drops all items.
func (s *stack[T]) empty() {
	s.items = nil
}
