package keymap

import (
	"slices"
	"testing"

	"stylus/api"
	"stylus/keys"
)

// R1

func TestAnyKeysAndNumbers(t *testing.T) {
	var none *Map
	allKeys(func(k keys.Key) {
		want(t, "Drop, nil map", none.Drop(k), api.ErrNone)
		want(t, "Bind, nil map", none.Bind(k, Undo), api.ErrArg)
		find(t, none, k, words{}.find(k))
	})
	m, w := New(), wordsNew()
	allKeys(func(k keys.Key) {
		drop(t, m, w, k)
		bind(t, m, w, k, Undo)
		find(t, m, k, w.find(k))
		drop(t, m, w, k)
		find(t, m, k, w.find(k))
	})
	l, all := lot(2), numbers()
	for range 20000 {
		bind(t, m, w, l.far(), all[l.draw(len(all))])
		drop(t, m, w, l.far())
	}
	hold(t, m, w)
}

// Keys that differ in one field alone are others, whatever the fields are.
func TestAnyKeyIsAKey(t *testing.T) {
	var l []keys.Key
	for _, kind := range someKinds {
		l = append(l, keys.Key{Kind: kind, Rune: 'q', Mods: 2})
	}
	for _, r := range someRunes {
		l = append(l, keys.Key{Kind: 1, Rune: r, Mods: 2})
	}
	for _, mods := range someMods {
		l = append(l, keys.Key{Kind: 1, Rune: 'q', Mods: mods})
	}
	m, w := New(), wordsNew()
	for k := range wordsNew() {
		drop(t, m, w, k)
	}
	for part := range slices.Chunk(l, 90) {
		for i, k := range part {
			bind(t, m, w, k, wordsCommands[i%len(wordsCommands)])
		}
		for _, k := range l {
			find(t, m, k, w.find(k))
		}
		for _, k := range part {
			drop(t, m, w, k)
			for _, k := range l {
				find(t, m, k, w.find(k))
			}
		}
	}
}

func TestNilMap(t *testing.T) {
	var none *Map
	w := wordsNew()
	for k := range w {
		find(t, none, k, 0)
		want(t, "Drop, nil map", none.Drop(k), api.ErrNone)
	}
	find(t, none, typed, Insert)
	find(t, none, untyped, 0)
	find(t, none, keys.Key{}, 0)
	want(t, "Drop, nil map", none.Drop(typed), api.ErrNone)
	want(t, "Bind, nil map", none.Bind(typed, 99), api.ErrArg)
	want(t, "Bind, nil map", none.Bind(typed, 0), api.ErrArg)
}

// R3

func TestMapsHaveNothingInCommon(t *testing.T) {
	l := lot(3)
	one, other := New(), New()
	first, second := wordsNew(), wordsNew()
	for range 600 {
		l.step(t, one, first)
		l.step(t, other, second)
		if l.draw(20) == 0 {
			hold(t, one, first)
			hold(t, other, second)
			hold(t, New(), wordsNew())
		}
	}
}

func TestANewMapIsAsAtFirst(t *testing.T) {
	before := New()
	m, w := New(), wordsNew()
	for k := range wordsNew() {
		bind(t, m, w, k, Undo)
		drop(t, m, w, k)
	}
	for i := range 100 {
		bind(t, m, w, extra(i), Redo)
	}
	for _, m := range []*Map{before, New()} {
		hold(t, m, wordsNew())
		for i := range 50 {
			find(t, m, extra(i), 0)
			want(t, "Bind", m.Bind(extra(i), Undo), api.OK)
		}
		want(t, "Bind, full", m.Bind(typed, Undo), api.ErrFull)
	}
	hold(t, m, w)
}

// No more is kept than the keys: those that were dropped leave no room behind.
func TestLittleIsKept(t *testing.T) {
	m := New()
	for i := range 100000 {
		k := keys.Key{Kind: i + 20}
		want(t, "Bind", m.Bind(k, Undo), api.OK)
		want(t, "Drop", m.Drop(k), api.OK)
	}
	if n := cap(m.bindings); n > 200 {
		t.Errorf("room for %d keys is kept", n)
	}
}

// R4

func TestSameCallsGiveTheSame(t *testing.T) {
	run := func() (got []int) {
		l := lot(44)
		m := New()
		for range 3000 {
			k, command := l.far(), l.draw(120)-10
			if l.draw(2) == 0 {
				k = l.near()
			}
			got = append(got, int(m.Bind(k, command)), m.Find(k), int(m.Drop(l.near())), m.Find(l.near()))
		}
		return got
	}
	got := run()
	for range 3 {
		if !slices.Equal(run(), got) {
			t.Error("other results")
		}
	}
}

func TestFindAndIsChangeNothing(t *testing.T) {
	m, w := full(t, 49)
	allKeys(func(k keys.Key) {
		m.Find(k)
	})
	for _, command := range numbers() {
		Is(command)
	}
	hold(t, m, w)
	bind(t, m, w, typed, Undo)
	bind(t, m, w, untyped, Undo)
	hold(t, m, w)
}

func TestFailedCallsChangeNothing(t *testing.T) {
	l := lot(6)
	m, w := New(), wordsNew()
	for range 300 {
		l.step(t, m, w)
		for range 5 {
			k := l.far()
			if _, is := w[k]; !is {
				want(t, "Drop", m.Drop(k), api.ErrNone)
			}
			want(t, "Bind", m.Bind(l.near(), 94+l.draw(50)), api.ErrArg)
			want(t, "Bind", m.Bind(l.pick(w), -1-l.draw(50)), api.ErrArg)
		}
		hold(t, m, w)
	}
}
