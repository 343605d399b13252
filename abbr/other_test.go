package abbr

import (
	"math"
	"slices"
	"strings"
	"testing"

	"stylus/api"
	"stylus/snippet"
)

var anyRunes = []rune{math.MinInt32, -2, -1, 0, 1, 9, 10, 11, ' ', '$', '(', '0', 'A', '\\', '_', 'a', '}', 127, 128, 0xD7FF, 0xD800, 0xDFFF, 0xE000, 0xFFFD, 0x10FFFF, 0x110000, math.MaxInt32}

// R1

func TestAnyRunes(t *testing.T) {
	p := newPair(t)
	for _, r := range anyRunes {
		for _, s := range anyRunes {
			p.set([]rune{r}, []rune{s})
			p.set([]rune{s, r}, []rune{r, s})
			p.set([]rune{'n', r}, []rune{'$', '{', r, s, '}'})
			for _, text := range [][]rune{{r}, {s, r}, {r, s, r}, {'n', r}, {s, 'n', r}, {'a', s, 'n', r, s}} {
				p.get(text)
				p.aheadOf(text)
			}
			p.holdThose()
			p.drop([]rune{r})
			p.drop([]rune{s, r})
			p.drop([]rune{'n', s})
		}
	}
}

func TestAnyNumbers(t *testing.T) {
	p := newPair(t)
	p.set([]rune("n"), nil)
	p.set([]rune("("), nil)
	for _, text := range [][]rune{nil, {}, []rune("n"), []rune("x(n"), []rune(strings.Repeat("n(", 1000))} {
		for _, n := range []int{math.MinInt, math.MinInt32, -1000, 0, len(text), math.MaxInt32, 1 << 31, 1 << 32, math.MaxInt} {
			for more := -21; more <= 21; more++ {
				p.ahead(text, n+more) // wraps round
			}
		}
	}
}

func TestNilLists(t *testing.T) {
	var none *Table
	for _, x := range []*Table{none, New(), table(t, "a"), table(t, numbered(20)...)} {
		n := x.Len()
		for _, l := range [][]rune{nil, {}} {
			if e := x.Set(l, nil); e != api.ErrArg {
				t.Errorf("Set: %d, want 1", e)
			}
			if e := x.Set(l, []rune("$")); e != api.ErrArg {
				t.Errorf("Set: %d, want 1", e)
			}
			if e := x.Drop(l); e != api.ErrNone {
				t.Errorf("Drop: %d, want 4", e)
			}
			if m, e := x.Get(l); e != api.ErrNone || len(m) != 0 {
				t.Errorf("Get: %v, %d, want none, 4", m, e)
			}
			for at := -1; at < 2; at++ {
				holdAheadRunes(t, x, l, at, nil)
			}
		}
		holdLen(t, x, n)
	}
}

func TestLongArguments(t *testing.T) {
	const n = 1000000
	p := newPair(t)
	p.set([]rune("n"), nil)
	p.set([]rune("-n"), nil)
	for _, long := range [][]rune{slices.Repeat([]rune{'n'}, n), slices.Repeat([]rune{'-', 'n'}, n), slices.Repeat([]rune{-1}, n), slices.Repeat([]rune{'$'}, n)} {
		p.set(long, long)
		p.set([]rune("n"), long)
		p.set([]rune("x"), long)
		p.set(long, nil)
		p.get(long)
		p.drop(long)
		for _, at := range []int{0, 1, 2, 3, n / 2, n/2 + 1, len(long) - 1, len(long), len(long) + 1} {
			p.ahead(long, at)
		}
		p.holdThose()
	}
}

// R2: with an error all else is zero, and nothing is changed.

func TestErrorsChangeNothing(t *testing.T) {
	for _, full := range []bool{false, true} {
		names := numbered(19)
		if full {
			names = numbered(20)
		}
		x := table(t, names...)
		for text := range faulty() {
			for _, name := range []string{"", "a b", letters(21), "new", "nA", "nS"} {
				if e := x.Set([]rune(name), []rune(text)); e == api.OK {
					t.Errorf("Set(%q, %q): 0", name, text)
				}
				holdAll(t, x, names...)
			}
		}
		for _, name := range []string{"", "a b", letters(21), "new", "n", "nAA", "A"} {
			holdDrop(t, x, name, api.ErrNone)
			if l, e := x.Get([]rune(name)); e != api.ErrNone || l != nil {
				t.Errorf("Get(%q): %v, %d, want nil, 4", name, l, e)
			}
			if found, is := x.Ahead([]rune(name), len(name)); is || found != nil {
				t.Errorf("Ahead(%q): %v, %v, want nil, false", name, found, is)
			}
			holdAll(t, x, names...)
		}
		if full {
			holdSet(t, x, "new", "x", api.ErrFull)
			holdAll(t, x, names...)
		}
	}
}

// R3

// roomy returns runes with room behind their end, and all of that memory.
func roomy(s string) (l, all []rune) {
	all = append([]rune(s), 'R', 'O', 'O', 'M')
	return all[:len(all)-4], all
}

// holdSpoilt holds that memory is as it was, and spoils it.
func holdSpoilt(t *testing.T, all []rune, s string) {
	t.Helper()
	if string(all) != s+"ROOM" {
		t.Errorf("%q: changed to %q", s, string(all))
	}
	for i := range all {
		all[i] = 'z'
	}
}

func TestArgumentsStay(t *testing.T) {
	x := New()
	for _, name := range []string{"a", "ab", "(", letters(20)} {
		for _, text := range []string{"", "x", "${1:a$2}-$1", "${1|b,c|}${x/(d)/<$1>/g}"} {
			for range 2 {
				n, allName := roomy(name)
				s, allText := roomy(text)
				if e := x.Set(n, s); e != api.OK {
					t.Errorf("Set: %d", e)
				}
				holdSpoilt(t, allName, name)
				holdSpoilt(t, allText, text)
				holdGet(t, x, name, text)
				holdEnd(t, x, name, name)
				holdNone(t, x, strings.Repeat("z", len(name)))
			}
			n, all := roomy(name)
			if _, e := x.Get(n); e != api.OK {
				t.Errorf("Get: %d", e)
			}
			holdSpoilt(t, all, name)
			n, all = roomy("x " + name)
			if found, is := x.Ahead(n, len(n)); !is || string(found) != name {
				t.Errorf("Ahead: %q, %v", string(found), is)
			}
			holdSpoilt(t, all, "x "+name)
			holdGet(t, x, name, text)
			n, all = roomy(name)
			if e := x.Drop(n); e != api.OK {
				t.Errorf("Drop: %d", e)
			}
			holdSpoilt(t, all, name)
			holdLen(t, x, 0)
		}
	}
}

func TestArgumentsStayWithErrors(t *testing.T) {
	x := table(t, numbered(20)...)
	for _, name := range []string{"", "a b", "new", "nA", letters(21)} {
		for _, text := range []string{"", "x", "$", strings.Repeat("${1:", 9)} {
			n, allName := roomy(name)
			s, allText := roomy(text)
			if e := x.Set(n, s); name == "nA" && e == api.OK {
				holdSet(t, x, "nA", snippetOf("nA"), api.OK)
			}
			holdSpoilt(t, allName, name)
			holdSpoilt(t, allText, text)
			holdAll(t, x, numbered(20)...)
		}
	}
}

// A name that Ahead returned shares no memory with the text, or the table.
func TestNamesAreNew(t *testing.T) {
	x := table(t, "fn", "n", "(n")
	for _, s := range []string{"fn", "x fn", "n", "a(n"} {
		text, all := roomy(s)
		name, _ := x.Ahead(text, len(text))
		other, _ := x.Ahead(text, len(text))
		want := string(name)
		for i := range name {
			name[i] = 'z'
		}
		_ = append(name, 'y', 'y')
		if string(other) != want {
			t.Errorf("Ahead(%q): %q, want %q", s, string(other), want)
		}
		if string(text) != s {
			t.Errorf("Ahead(%q): the text is %q", s, string(text))
		}
		holdSpoilt(t, all, s)
		if string(other) != want {
			t.Errorf("Ahead(%q): %q, want %q", s, string(other), want)
		}
		holdAll(t, x, "fn", "n", "(n")
		holdEnd(t, x, s, want)
	}
}

// spoil changes parts, with all that is in them.
func spoil(l []snippet.Node) {
	zap := func(s []rune) {
		for i := range s {
			s[i] = 'z'
		}
		_ = append(s, 'y')
	}
	for i := range l {
		zap(l[i].Name)
		spoil(l[i].Subs)
		for j := range l[i].Choices {
			zap(l[i].Choices[j])
			l[i].Choices[j] = nil
		}
		zap(l[i].T.Pattern)
		zap(l[i].T.Format)
		l[i] = snippet.Node{Kind: snippet.Stop, N: 99}
	}
	_ = append(l, snippet.Node{Kind: 7})
}

func TestPartsAreNew(t *testing.T) {
	x := New()
	const text = "abc${1:d${2:e}}${3|f,g|}${x:h${y}}${4/(i)/<$1>/g}j"
	holdSet(t, x, "a", text, api.OK)
	holdSet(t, x, "b", text, api.OK)
	l, _ := x.Get([]rune("a"))
	m, _ := x.Get([]rune("a"))
	spoil(l)
	want, _, _ := snippet.Parse([]rune(text))
	if !same(m, want) {
		t.Errorf("Get: %v, want %v", m, want)
	}
	holdGet(t, x, "a", text)
	holdGet(t, x, "b", text)
	holdDrop(t, x, "a", api.OK)
	holdSet(t, x, "b", "other", api.OK)
	if !same(m, want) {
		t.Errorf("Get: %v, want %v", m, want)
	}
}

func TestTablesShareNothing(t *testing.T) {
	x, y := table(t, "a", "b"), table(t, "a")
	holdSet(t, x, "a", "x", api.OK)
	holdSet(t, x, "c", "x", api.OK)
	holdAll(t, y, "a")
	holdDrop(t, x, "a", api.OK)
	holdAll(t, y, "a")
	holdEnd(t, y, "a", "a")
	holdEnd(t, x, "a", "")
	holdEnd(t, y, "b", "")
	holdSet(t, y, "a", "y", api.OK)
	holdDrop(t, y, "a", api.OK)
	holdLen(t, y, 0)
	holdLen(t, x, 2)
	holdAll(t, New())
	for _, name := range numbered(18) {
		holdSet(t, x, name, "", api.OK)
	}
	holdSet(t, x, "new", "", api.ErrFull)
	holdSet(t, y, "new", "", api.OK)
}

// P17.3

func TestWhatWasSetIsReturned(t *testing.T) {
	p := newPair(t)
	for round := range 30 {
		for i := range 26 {
			name := []rune{'a' + rune(i), 'a' + rune(i*round%7)}
			p.set(name, []rune(snippetOf(string(name))))
			p.holdThose()
			p.ahead(append([]rune("x "), name...), 4)
			if (i+round)%3 == 0 {
				p.drop([]rune{'a' + rune(i*5%26), 'a' + rune(round%7)})
			}
		}
	}
}

// R4

// The same calls in tables that were filled in several orders.
func TestSameCallsGiveTheSame(t *testing.T) {
	names := append(numbered(10), "-", "--", "-a", "--a", "a", "a-", "_", "é", "(a", "-(a")
	texts := [][]rune{[]rune("x--a"), []rune("--"), []rune("a-(a"), []rune("aa-"), []rune("--nA"), []rune("é")}
	first := table(t, names...)
	l := lot(5)
	for range 200 {
		for i := range names {
			j := i + l.draw(len(names)-i)
			names[i], names[j] = names[j], names[i]
		}
		x := table(t, names...)
		for range 5 {
			name := names[l.draw(20)]
			holdDrop(t, x, name, api.OK)
			holdSet(t, x, name, snippetOf(name), api.OK)
		}
		for _, text := range texts {
			for at := range len(text) + 1 {
				name, is := x.Ahead(text, at)
				want, may := first.Ahead(text, at)
				if is != may || !slices.Equal(name, want) {
					t.Errorf("Ahead(%q, %d): %q, %v, want %q", string(text), at, string(name), is, string(want))
				}
			}
		}
		holdAll(t, x, names...)
	}
}
