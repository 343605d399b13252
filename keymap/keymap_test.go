package keymap

import (
	"math"
	"testing"

	"stylus/keys"
	"stylus/motion"
)

// P21.1: commands

func TestConstants(t *testing.T) {
	for want, got := range map[int]int{
		1: Insert, 2: Newline, 3: Accept, 4: Abort,
		10: Move, 30: Extend,
		51: DelLeft, 52: DelRight, 53: KillWord, 54: KillLine, 55: Transpose, 56: Yank,
		61: Undo, 62: Redo,
		71: Expand, 72: Field, 73: Choice, 74: Other,
		81: CaretUp, 82: CaretDown, 83: One,
		91: Older, 92: Newer, 93: Search,
	} {
		if got != want {
			t.Errorf("%d, want %d", got, want)
		}
	}
}

func TestMotionsAreCommands(t *testing.T) {
	kinds := []int{motion.Left, motion.Right, motion.WordLeft, motion.WordRight, motion.LineStart, motion.LineEnd, motion.Up, motion.Down, motion.Start, motion.End}
	for i, kind := range kinds {
		if Move+kind != 11+i || Extend+kind != 31+i || !Is(Move+kind) || !Is(Extend+kind) {
			t.Errorf("kind %d: %d, %d, %v, %v", kind, Move+kind, Extend+kind, Is(Move+kind), Is(Extend+kind))
		}
	}
}

func TestIs(t *testing.T) {
	for _, command := range append([]int{0}, wordsCommands...) {
		if !Is(command) {
			t.Errorf("Is(%d): false", command)
		}
	}
	for _, command := range []int{
		-1, -2, -10, -100, 5, 6, 7, 8, 9, 10, 21, 22, 23, 24, 25, 26, 27, 28, 29, 30, 41, 42, 43, 44, 45, 46, 47, 48, 49, 50,
		57, 58, 59, 60, 63, 64, 65, 66, 67, 68, 69, 70, 75, 76, 77, 78, 79, 80, 84, 85, 86, 87, 88, 89, 90, 94, 95, 96, 97, 98, 99, 100, 101, 1000,
		math.MinInt, math.MinInt + 1, math.MaxInt, math.MaxInt - 1, math.MinInt32, math.MaxInt32,
	} {
		if Is(command) {
			t.Errorf("Is(%d): true", command)
		}
	}
}

func TestIsOfManyNumbers(t *testing.T) {
	for _, command := range numbers() {
		if got, want := Is(command), wordsIs(command); got != want {
			t.Errorf("Is(%d): %v, want %v", command, got, want)
		}
	}
	for command := -70000; command < 70000; command++ {
		if got, want := Is(command), wordsIs(command); got != want {
			t.Errorf("Is(%d): %v, want %v", command, got, want)
		}
	}
}

// P21.1: the keys of a new map

func TestExample(t *testing.T) {
	m := New()
	if c := m.Find(keys.Key{Kind: keys.Char, Rune: 'a', Mods: 4}); c != 15 {
		t.Errorf("Control a: %d", c)
	}
	if c := m.Find(keys.Key{Kind: keys.Char, Rune: 'a'}); c != 1 {
		t.Errorf("a: %d", c)
	}
}

func TestKeysOfANewMap(t *testing.T) {
	m, w := New(), wordsNew()
	if len(w) != 50 {
		t.Fatalf("%d keys", len(w))
	}
	for k, want := range w {
		if got := m.Find(k); got != want {
			t.Errorf("Find(%v): %d, want %d", k, got, want)
		}
	}
}

func TestKeysWithOneFieldChanged(t *testing.T) {
	m, w := New(), wordsNew()
	find := func(k keys.Key) {
		if got, want := m.Find(k), w.find(k); got != want {
			t.Errorf("Find(%v): %d, want %d", k, got, want)
		}
	}
	for k := range w {
		for _, kind := range someKinds {
			find(keys.Key{Kind: kind, Rune: k.Rune, Mods: k.Mods})
		}
		for _, r := range someRunes {
			find(keys.Key{Kind: k.Kind, Rune: r, Mods: k.Mods})
		}
		for r := rune(-200); r < 200; r++ {
			find(keys.Key{Kind: k.Kind, Rune: r, Mods: k.Mods})
		}
		find(keys.Key{Kind: k.Kind, Rune: k.Rune ^ 0x20, Mods: k.Mods})
		for _, mods := range someMods {
			find(keys.Key{Kind: k.Kind, Rune: k.Rune, Mods: mods})
		}
	}
}

func TestNoOtherKeysInANewMap(t *testing.T) {
	m, w := New(), wordsNew()
	allKeys(func(k keys.Key) {
		if got, want := m.Find(k), w.find(k); got != want {
			t.Errorf("Find(%v): %d, want %d", k, got, want)
		}
	})
	// A new map has exactly these keys: each of them can be dropped, no other one.
	for kind := range 14 {
		for r := rune(-1); r < 130; r++ {
			for mods := range 9 {
				k := keys.Key{Kind: kind, Rune: r, Mods: mods}
				if got, want := m.Drop(k), w.drop(k); got != want {
					t.Errorf("Drop(%v): %d, want %d", k, got, want)
				}
			}
		}
	}
	if len(w) != 0 {
		t.Errorf("%d keys are left", len(w))
	}
}

// P21.1: keys that a map does not have

func TestInsertedRunes(t *testing.T) {
	var none *Map
	for r, want := range map[rune]int{
		32: Insert, 33: Insert, 'A': Insert, 'a': Insert, 'z': Insert, 126: Insert, 128: Insert, 159: Insert, 160: Insert, 0x300: Insert, 0xD7FF: Insert, 0xE000: Insert, 65533: Insert, 0xFFFE: Insert, 0xFFFF: Insert, 0x10FFFF: Insert,
		-1: 0, -97: 0, math.MinInt32: 0, 0: 0, 1: 0, 9: 0, 10: 0, 13: 0, 27: 0, 31: 0, 127: 0, 0xD800: 0, 0xDBFF: 0, 0xDC00: 0, 0xDFFF: 0, 0x110000: 0, math.MaxInt32: 0,
	} {
		for _, m := range []*Map{New(), none} {
			if got := m.Find(keys.Key{Kind: keys.Char, Rune: r}); got != want {
				t.Errorf("rune %d: %d, want %d", r, got, want)
			}
		}
	}
}

func TestInsertOfAllRunes(t *testing.T) {
	m, w := New(), wordsNew()
	for r := rune(-300); r < 0x110100; r++ {
		k := keys.Key{Kind: keys.Char, Rune: r}
		if got, want := m.Find(k), w.find(k); got != want {
			t.Errorf("Find(%v): %d, want %d", k, got, want)
		}
	}
}

func TestOnlyACharWithoutModsIsInserted(t *testing.T) {
	m := New()
	for _, mods := range someMods {
		if mods == 0 {
			continue
		}
		for _, r := range []rune{' ', 'q', 'Q', 0x20AC, 31, 127} {
			if got := m.Find(keys.Key{Kind: keys.Char, Rune: r, Mods: mods}); got != 0 {
				t.Errorf("rune %d, Mods %d: %d", r, mods, got)
			}
		}
	}
	for _, kind := range someKinds {
		if kind == keys.Char {
			continue
		}
		for _, r := range []rune{' ', 'q', 0x20AC} {
			if got := m.Find(keys.Key{Kind: kind, Rune: r}); got != 0 {
				t.Errorf("kind %d, rune %d: %d", kind, r, got)
			}
		}
	}
}
