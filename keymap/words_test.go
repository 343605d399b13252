package keymap

import (
	"math"
	"strconv"
	"strings"
	"testing"
	"unicode/utf8"

	"stylus/api"
	"stylus/keys"
)

// The chapter's table.
const wordsTable = `
| Char a | Control | 15 |
| Char e | Control | 16 |
| Char b | Control | 11 |
| Char f | Control | 12 |
| Char b | Alt | 13 |
| Char f | Alt | 14 |
| Left | none | 11 |
| Right | none | 12 |
| Up | none | 17 |
| Down | none | 18 |
| Home | none | 15 |
| End | none | 16 |
| Left | Control | 13 |
| Right | Control | 14 |
| Home | Control | 19 |
| End | Control | 20 |
| Char < | Alt | 19 |
| Char > | Alt | 20 |
| Left | Shift | 31 |
| Right | Shift | 32 |
| Left | Control, Shift | 33 |
| Right | Control, Shift | 34 |
| Home | Shift | 35 |
| End | Shift | 36 |
| Up | Shift | 37 |
| Down | Shift | 38 |
| Back | none | 51 |
| Char d | Control | 52 |
| Delete | none | 52 |
| Char d | Alt | 53 |
| Char k | Control | 54 |
| Char t | Control | 55 |
| Char y | Control | 56 |
| Char z | Control | 61 |
| Char x | Control | 62 |
| Tab | none | 71 |
| Tab | Shift | 72 |
| Char n | Alt | 73 |
| Char p | Alt | 74 |
| Up | Alt | 81 |
| Down | Alt | 82 |
| Escape | none | 83 |
| Char g | Control | 83 |
| Char p | Control | 91 |
| Char n | Control | 92 |
| Char r | Control | 93 |
| Enter | none | 3 |
| Enter | Control | 2 |
| Enter | Alt | 2 |
| Char c | Control | 4 |
`

// kinds are in the order of their numbers, from 1 on.
const kinds = "Char Enter Tab Back Delete Up Down Left Right Home End Escape"

// wordsRow returns the key and the command of a row of the table.
func wordsRow(row string) (keys.Key, int) {
	cells := strings.Split(strings.Trim(row, "| "), " | ")
	var k keys.Key
	name, char, _ := strings.Cut(cells[0], " ")
	for i, kind := range strings.Fields(kinds) {
		if kind == name {
			k.Kind = i + 1
		}
	}
	k.Rune, _ = utf8.DecodeRuneInString(char + "\x00")
	for i, mod := range []string{"Shift", "Alt", "Control"} {
		if strings.Contains(cells[1], mod) {
			k.Mods += []int{1, 2, 4}[i]
		}
	}
	command, err := strconv.Atoi(cells[2])
	if err != nil {
		panic(err)
	}
	return k, command
}

// words are keys with their commands.
type words map[keys.Key]int

func wordsNew() words {
	w := words{}
	for row := range strings.Lines(strings.TrimSpace(wordsTable)) {
		k, command := wordsRow(strings.TrimSpace(row))
		w[k] = command
	}
	return w
}

// wordsCommands has all numbers of commands, as the chapter lists them.
var wordsCommands = []int{1, 2, 3, 4, 11, 12, 13, 14, 15, 16, 17, 18, 19, 20, 31, 32, 33, 34, 35, 36, 37, 38, 39, 40, 51, 52, 53, 54, 55, 56, 61, 62, 71, 72, 73, 74, 81, 82, 83, 91, 92, 93}

func wordsIs(command int) bool {
	for _, c := range wordsCommands {
		if c == command {
			return true
		}
	}
	return command == 0
}

func (w words) bind(k keys.Key, command int) api.Errno {
	if !wordsIs(command) {
		return api.ErrArg
	}
	others := 0
	for other := range w {
		if other.Kind != k.Kind || other.Rune != k.Rune || other.Mods != k.Mods {
			others++
		}
	}
	if others == 100 {
		return api.ErrFull
	}
	w[k] = command
	return api.OK
}

func (w words) drop(k keys.Key) api.Errno {
	if _, is := w[k]; !is {
		return api.ErrNone
	}
	delete(w, k)
	return api.OK
}

func (w words) find(k keys.Key) int {
	if command, is := w[k]; is {
		return command
	}
	if k.Kind != 1 || k.Mods != 0 || k.Rune == 127 {
		return 0
	}
	for _, valid := range [][2]rune{{32, 0xD7FF}, {0xE000, 0x10FFFF}} {
		if k.Rune >= valid[0] && k.Rune <= valid[1] {
			return 1
		}
	}
	return 0
}

// wide is 2^32, or 0 where numbers have 32 bits.
func wide() int {
	one := 1
	return one << 32
}

// Kinds, runes and Mods of which keys are made.
var (
	someKinds = []int{0, 1, 2, 3, 4, 5, 6, 7, 8, 9, 10, 11, 12, 13, 14, 100, -1, -2, -12, math.MinInt, math.MinInt + 1, math.MaxInt - 1, math.MaxInt, math.MinInt32, math.MaxInt32, wide(), wide() + 1, wide() + 8, -wide() + 1}
	someRunes = []rune{0, 1, 8, 9, 10, 13, 27, 30, 31, 32, 33, '0', '<', '>', 'A', 'C', 'Z', '`', 'a', 'b', 'c', 'd', 'e', 'f', 'g', 'k', 'n', 'p', 'q', 'r', 't', 'x', 'y', 'z', '~', 126, 127, 128, 129, 159, 160, 255, 0x300, 0x20AC, 0xD7FE, 0xD7FF, 0xD800, 0xD801, 0xDBFF, 0xDC00, 0xDFFE, 0xDFFF, 0xE000, 0xE001, 0xFEFF, 0xFFFC, 0xFFFD, 0xFFFE, 0xFFFF, 0x10000, 0x1F600, 0x10FFFE, 0x10FFFF, 0x110000, 0x110001, -1, -2, -32, -97, math.MinInt32, math.MinInt32 + 1, math.MaxInt32 - 1, math.MaxInt32}
	someMods  = []int{0, 1, 2, 3, 4, 5, 6, 7, 8, 9, 12, 16, 100, -1, -2, -4, -8, math.MinInt, math.MinInt + 1, math.MinInt + 4, math.MaxInt - 3, math.MaxInt, math.MinInt32, math.MaxInt32, wide(), wide() - 1, wide() + 1, wide() + 2, wide() + 4, -wide(), -wide() + 4}
)

// allKeys calls f with each key that has some kind, rune and Mods.
func allKeys(f func(keys.Key)) {
	for _, kind := range someKinds {
		for _, r := range someRunes {
			for _, mods := range someMods {
				f(keys.Key{Kind: kind, Rune: r, Mods: mods})
			}
		}
	}
}

// numbers returns numbers that are commands, and all kinds of others.
func numbers() []int {
	var l []int
	for _, base := range []int{0, math.MinInt, math.MaxInt, math.MinInt32, math.MaxInt32, wide(), -wide(), wide() / 2 * 3, 1 << 8, 1 << 16, 1 << 24} {
		for near := -200; near <= 200; near++ {
			l = append(l, base+near)
		}
	}
	return l
}

// lot draws numbers, the same ones in each run.
type lot uint64

func (l *lot) draw(n int) int {
	*l = *l*6364136223846793005 + 1442695040888963407
	return int(uint64(*l) >> 33 % uint64(n))
}

// near returns a key of few kinds, runes and Mods, so that it is often there.
func (l *lot) near() keys.Key {
	return keys.Key{Kind: l.draw(4), Rune: rune('a' + l.draw(5)), Mods: l.draw(8)}
}

// far returns a key of all kinds, runes and Mods.
func (l *lot) far() keys.Key {
	return keys.Key{Kind: someKinds[l.draw(len(someKinds))], Rune: someRunes[l.draw(len(someRunes))], Mods: someMods[l.draw(len(someMods))]}
}

// pick returns a key that w has, or a near one if there is none.
func (l *lot) pick(w words) keys.Key {
	rows := strings.Split(strings.TrimSpace(wordsTable), "\n")
	k, _ := wordsRow(rows[l.draw(len(rows))])
	for range 20 {
		if _, is := w[k]; is {
			return k
		}
		k = l.near()
	}
	return k
}

// step does one thing with a map and with the words, and holds what they return.
func (l *lot) step(t *testing.T, m *Map, w words) {
	t.Helper()
	k := [](func() keys.Key){l.near, l.far, func() keys.Key { return l.pick(w) }}[l.draw(3)]()
	switch kind := l.draw(10); {
	case kind < 5:
		command := wordsCommands[l.draw(len(wordsCommands))]
		switch l.draw(8) {
		case 0:
			command = 0
		case 1:
			command = l.draw(300) - 100
		}
		if got, want := m.Bind(k, command), w.bind(k, command); got != want {
			t.Fatalf("Bind(%v, %d): %d, want %d", k, command, got, want)
		}
	case kind < 8:
		if got, want := m.Drop(k), w.drop(k); got != want {
			t.Fatalf("Drop(%v): %d, want %d", k, got, want)
		}
	default:
		if got, want := m.Find(k), w.find(k); got != want {
			t.Fatalf("Find(%v): %d, want %d", k, got, want)
		}
	}
}

// hold holds all that a map tells of the keys of the words, and of some others.
func hold(t *testing.T, m *Map, w words) {
	t.Helper()
	for k, want := range w {
		if got := m.Find(k); got != want {
			t.Fatalf("Find(%v): %d, want %d", k, got, want)
		}
	}
	for kind := range 14 {
		for r := rune('a'); r <= 'g'; r++ {
			for mods := range 9 {
				k := keys.Key{Kind: kind, Rune: r, Mods: mods}
				if got, want := m.Find(k), w.find(k); got != want {
					t.Fatalf("Find(%v): %d, want %d", k, got, want)
				}
				k.Rune = 0
				if got, want := m.Find(k), w.find(k); got != want {
					t.Fatalf("Find(%v): %d, want %d", k, got, want)
				}
			}
		}
	}
}

// P21.1, P21.2

func TestDrawnSteps(t *testing.T) {
	l := lot(21)
	for range 40 {
		m, w := New(), wordsNew()
		for range 600 {
			l.step(t, m, w)
		}
		hold(t, m, w)
	}
}

func TestEachStepLeavesTheOtherKeys(t *testing.T) {
	l := lot(7)
	for range 3 {
		m, w := New(), wordsNew()
		for range 400 {
			l.step(t, m, w)
			hold(t, m, w)
		}
	}
}

// With few keys all orders of steps are tried.
func TestAllShortOrders(t *testing.T) {
	few := []keys.Key{{Kind: 1, Rune: 'a'}, {Kind: 1, Rune: 'a', Mods: 4}, {Kind: 8}}
	const kinds = 9
	for order := range kinds * kinds * kinds * kinds * kinds {
		m, w := New(), wordsNew()
		rest := order
		for range 5 {
			k := few[rest%kinds/3]
			switch rest % 3 {
			case 0:
				m.Bind(k, 61)
				w.bind(k, 61)
			case 1:
				m.Bind(k, 0)
				w.bind(k, 0)
			default:
				if got, want := m.Drop(k), w.drop(k); got != want {
					t.Fatalf("order %d: Drop(%v): %d, want %d", order, k, got, want)
				}
			}
			rest /= kinds
		}
		for _, k := range few {
			if got, want := m.Find(k), w.find(k); got != want {
				t.Fatalf("order %d: Find(%v): %d, want %d", order, k, got, want)
			}
		}
	}
}
