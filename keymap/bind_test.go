package keymap

import (
	"testing"

	"stylus/api"
	"stylus/keys"
)

var (
	typed    = keys.Key{Kind: keys.Char, Rune: 'q'}
	untyped  = keys.Key{Kind: keys.Char, Rune: 'q', Mods: 2}
	controlA = keys.Key{Kind: keys.Char, Rune: 'a', Mods: 4}
	left     = keys.Key{Kind: keys.Left}
)

// extra returns a key that a new map does not have; none is Insert.
func extra(i int) keys.Key {
	return keys.Key{Kind: keys.Char, Rune: rune('A' + i), Mods: 7}
}

// full returns a map with the keys of a new one and n further ones.
func full(t *testing.T, n int) (*Map, words) {
	t.Helper()
	m, w := New(), wordsNew()
	for i := range n {
		bind(t, m, w, extra(i), Undo)
	}
	return m, w
}

func bind(t *testing.T, m *Map, w words, k keys.Key, command int) {
	t.Helper()
	if got, want := m.Bind(k, command), w.bind(k, command); got != want {
		t.Errorf("Bind(%v, %d): %d, want %d", k, command, got, want)
	}
}

func drop(t *testing.T, m *Map, w words, k keys.Key) {
	t.Helper()
	if got, want := m.Drop(k), w.drop(k); got != want {
		t.Errorf("Drop(%v): %d, want %d", k, got, want)
	}
}

func find(t *testing.T, m *Map, k keys.Key, want int) {
	t.Helper()
	if got := m.Find(k); got != want {
		t.Errorf("Find(%v): %d, want %d", k, got, want)
	}
}

func want(t *testing.T, what string, got, want api.Errno) {
	t.Helper()
	if got != want {
		t.Errorf("%s: %d, want %d", what, got, want)
	}
}

// P21.1: Bind

func TestBindEachCommand(t *testing.T) {
	for _, k := range []keys.Key{typed, untyped, controlA, left, {}} {
		m := New()
		for _, command := range append([]int{0}, wordsCommands...) {
			for range 2 {
				want(t, "Bind", m.Bind(k, command), api.OK)
				find(t, m, k, command)
			}
		}
	}
}

func TestBindWhatIsNoCommand(t *testing.T) {
	var none *Map
	for _, command := range numbers() {
		if wordsIs(command) {
			continue
		}
		for _, k := range []keys.Key{typed, controlA, {}} {
			m := New()
			want(t, "Bind", m.Bind(k, command), api.ErrArg)
			want(t, "Bind, nil map", none.Bind(k, command), api.ErrArg)
			find(t, m, typed, Insert)
			find(t, m, controlA, 15)
			find(t, m, keys.Key{}, 0)
		}
	}
	m, w := full(t, 49)
	for i := -3; i < 200; i++ {
		if !wordsIs(i) {
			want(t, "Bind", m.Bind(typed, i), api.ErrArg)
		}
	}
	bind(t, m, w, extra(49), Undo) // nothing was bound before it
	want(t, "Bind, full", m.Bind(extra(50), Undo), api.ErrFull)
	hold(t, m, w)
}

func TestBindOfANilMap(t *testing.T) {
	var none *Map
	for _, k := range []keys.Key{typed, controlA, {}} {
		for _, command := range append([]int{0}, wordsCommands...) {
			want(t, "Bind, nil map", none.Bind(k, command), api.ErrArg)
		}
	}
}

func TestBindNone(t *testing.T) {
	m := New()
	for _, k := range []keys.Key{typed, untyped, controlA, left} {
		want(t, "Bind", m.Bind(k, 0), api.OK)
		find(t, m, k, 0)
		want(t, "Drop", m.Drop(k), api.OK)
		want(t, "Drop again", m.Drop(k), api.ErrNone)
	}
	find(t, m, typed, Insert)
	find(t, m, controlA, 0)
}

// A key that has none counts as one that the map has.
func TestKeysBoundToNoneCount(t *testing.T) {
	m, w := New(), wordsNew()
	for i := range 50 {
		bind(t, m, w, extra(i), 0)
	}
	want(t, "Bind, full", m.Bind(typed, 0), api.ErrFull)
	want(t, "Bind, full", m.Bind(typed, Undo), api.ErrFull)
	find(t, m, typed, Insert)
	for k := range w {
		want(t, "Bind again", m.Bind(k, 0), api.OK)
		find(t, m, k, 0)
	}
	want(t, "Bind, full", m.Bind(untyped, Undo), api.ErrFull)
}

func TestBindAgain(t *testing.T) {
	m := New()
	for _, k := range []keys.Key{typed, controlA, left} {
		for _, command := range []int{Undo, Redo, Undo, Undo, 0, 0, Insert, 11} {
			want(t, "Bind", m.Bind(k, command), api.OK)
			find(t, m, k, command)
		}
	}
	// A key that is bound again is there once.
	for _, k := range []keys.Key{typed, controlA, left} {
		want(t, "Drop", m.Drop(k), api.OK)
		want(t, "Drop again", m.Drop(k), api.ErrNone)
	}
}

// P21.1: ErrFull

func TestFullAt100OtherKeys(t *testing.T) {
	for n := range 50 {
		m, w := full(t, n)
		bind(t, m, w, typed, Undo)
		find(t, m, typed, Undo)
		hold(t, m, w)
	}
	m, w := full(t, 50)
	for i := 50; i < 60; i++ {
		want(t, "Bind, full", m.Bind(extra(i), Undo), api.ErrFull)
		find(t, m, extra(i), 0)
	}
	want(t, "Bind, full", m.Bind(typed, Undo), api.ErrFull)
	want(t, "Bind, full", m.Bind(typed, 0), api.ErrFull)
	want(t, "Bind, full", m.Bind(typed, Insert), api.ErrFull)
	find(t, m, typed, Insert)
	hold(t, m, w)
}

func TestBindAgainWhereItIsFull(t *testing.T) {
	m, w := full(t, 50)
	for k, command := range w {
		want(t, "Bind the same", m.Bind(k, command), api.OK)
		find(t, m, k, command)
	}
	for k := range w {
		want(t, "Bind another", m.Bind(k, Search), api.OK)
		find(t, m, k, Search)
	}
	for k := range w {
		find(t, m, k, Search)
	}
	want(t, "Bind, full", m.Bind(typed, Search), api.ErrFull)
}

func TestErrArgAheadOfErrFull(t *testing.T) {
	m, w := full(t, 50)
	for _, command := range []int{-1, 5, 10, 21, 30, 41, 50, 57, 63, 75, 84, 94, 1000} {
		want(t, "Bind, full", m.Bind(typed, command), api.ErrArg)
		want(t, "Bind, full, a key that is there", m.Bind(controlA, command), api.ErrArg)
	}
	hold(t, m, w)
}

func TestBindBehindDropWhereItWasFull(t *testing.T) {
	m, w := full(t, 50)
	for k := range w {
		want(t, "Bind, full", m.Bind(typed, Undo), api.ErrFull)
		want(t, "Drop", m.Drop(k), api.OK)
		want(t, "Bind", m.Bind(typed, Redo), api.OK)
		want(t, "Bind, full", m.Bind(k, Undo), api.ErrFull)
		want(t, "Drop", m.Drop(typed), api.OK)
		want(t, "Bind", m.Bind(k, w[k]), api.OK)
	}
	hold(t, m, w)
}

func TestAFailedDropMakesNoRoom(t *testing.T) {
	m, w := full(t, 50)
	want(t, "Drop", m.Drop(typed), api.ErrNone)
	want(t, "Bind, full", m.Bind(typed, Undo), api.ErrFull)
	hold(t, m, w)
}

// P21.1: Drop

func TestDropEachKey(t *testing.T) {
	for k := range wordsNew() {
		m, w := New(), wordsNew()
		drop(t, m, w, k)
		drop(t, m, w, k)
		find(t, m, k, w.find(k))
		hold(t, m, w)
		bind(t, m, w, k, Search)
		find(t, m, k, Search)
		drop(t, m, w, k)
		drop(t, m, w, k)
		hold(t, m, w)
	}
}

func TestDropWhatIsNotThere(t *testing.T) {
	m, w := New(), wordsNew()
	for range 2 {
		for _, k := range []keys.Key{typed, untyped, {}, {Kind: 13}, {Kind: keys.Left, Rune: 'a'}, {Kind: keys.Left, Mods: 2}, {Kind: keys.Char, Rune: 'A', Mods: 4}, {Rune: 'a', Mods: 4}} {
			want(t, "Drop", m.Drop(k), api.ErrNone)
		}
		hold(t, m, w)
	}
	find(t, m, typed, Insert)
}

func TestDropAKeyBoundAnew(t *testing.T) {
	m, w := New(), wordsNew()
	for _, k := range []keys.Key{typed, untyped, controlA} {
		bind(t, m, w, k, Undo)
		bind(t, m, w, k, Redo)
		drop(t, m, w, k)
		drop(t, m, w, k)
	}
	find(t, m, typed, Insert)
	find(t, m, untyped, 0)
	find(t, m, controlA, 0)
	hold(t, m, w)
}

func TestDropAllAndBindThemAgain(t *testing.T) {
	m, w := full(t, 50)
	all := words{}
	for k, command := range w {
		all[k] = command
	}
	for range 3 {
		for k := range all {
			drop(t, m, w, k)
			drop(t, m, w, k)
		}
		for k := range all {
			find(t, m, k, 0)
		}
		find(t, m, typed, Insert)
		find(t, m, keys.Key{Kind: keys.Char, Rune: 'a'}, Insert)
		find(t, m, left, 0)
		for k, command := range all {
			bind(t, m, w, k, command)
		}
		want(t, "Bind, full", m.Bind(typed, Undo), api.ErrFull)
		hold(t, m, w)
	}
}

func TestHundredKeysInAnEmptyMap(t *testing.T) {
	m, w := New(), wordsNew()
	for k := range wordsNew() {
		drop(t, m, w, k)
	}
	for i := range 103 {
		bind(t, m, w, extra(i), wordsCommands[i%len(wordsCommands)])
	}
	hold(t, m, w)
	if len(w) != 100 {
		t.Errorf("%d keys", len(w))
	}
}
