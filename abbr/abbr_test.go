package abbr

import (
	"math"
	"slices"
	"strings"
	"testing"

	"stylus/api"
	"stylus/snippet"
)

// table returns a table with names, each of which has the snippet that is told by
// snippetOf.
func table(t *testing.T, names ...string) *Table {
	t.Helper()
	x := New()
	for _, name := range names {
		holdSet(t, x, name, snippetOf(name), api.OK)
	}
	return x
}

// snippetOf returns a snippet that no other name has.
func snippetOf(name string) string {
	return "<${1:" + name + "}>"
}

func holdSet(t *testing.T, x *Table, name, text string, want api.Errno) {
	t.Helper()
	if e := x.Set([]rune(name), []rune(text)); e != want {
		t.Errorf("Set(%q, %q): %d, want %d", name, text, e, want)
	}
}

func holdDrop(t *testing.T, x *Table, name string, want api.Errno) {
	t.Helper()
	if e := x.Drop([]rune(name)); e != want {
		t.Errorf("Drop(%q): %d, want %d", name, e, want)
	}
}

func holdLen(t *testing.T, x *Table, want int) {
	t.Helper()
	if n := x.Len(); n != want {
		t.Errorf("Len: %d, want %d", n, want)
	}
}

// holdGet holds that a name has the parts of a snippet.
func holdGet(t *testing.T, x *Table, name, text string) {
	t.Helper()
	want, _, e := snippet.Parse([]rune(text))
	if e != api.OK {
		t.Fatalf("Parse(%q): %d", text, e)
	}
	if l, e := x.Get([]rune(name)); e != api.OK || !same(l, want) {
		t.Errorf("Get(%q): %v, %d, want %v, 0", name, l, e, want)
	}
}

func holdNone(t *testing.T, x *Table, name string) {
	t.Helper()
	if l, e := x.Get([]rune(name)); e != api.ErrNone || len(l) != 0 {
		t.Errorf("Get(%q): %v, %d, want none, 4", name, l, e)
	}
}

// holdAll holds that a table has these names with their own snippets, and no
// others.
func holdAll(t *testing.T, x *Table, names ...string) {
	t.Helper()
	holdLen(t, x, len(names))
	for _, name := range names {
		holdGet(t, x, name, snippetOf(name))
	}
}

// holdAhead holds that the name that is wanted is the one before a place; no name
// is wanted by an empty one.
func holdAhead(t *testing.T, x *Table, text string, at int, want string) {
	t.Helper()
	holdAheadRunes(t, x, []rune(text), at, []rune(want))
}

func holdAheadRunes(t *testing.T, x *Table, text []rune, at int, want []rune) {
	t.Helper()
	name, is := x.Ahead(text, at)
	if !slices.Equal(name, want) || is != (len(want) > 0) {
		t.Errorf("Ahead(%v, %d): %v, %v, want %v", text, at, name, is, want)
	}
}

// holdEnd holds what is before the end of a text.
func holdEnd(t *testing.T, x *Table, text, want string) {
	t.Helper()
	holdAhead(t, x, text, len([]rune(text)), want)
}

func same(l, m []snippet.Node) bool {
	return slices.EqualFunc(l, m, func(x, y snippet.Node) bool {
		return x.Kind == y.Kind && x.N == y.N && slices.Equal(x.Name, y.Name) && same(x.Subs, y.Subs) &&
			slices.EqualFunc(x.Choices, y.Choices, slices.Equal) && x.Turn == y.Turn &&
			slices.Equal(x.T.Pattern, y.T.Pattern) && slices.Equal(x.T.Format, y.T.Format) && x.T.All == y.T.All && x.T.Fold == y.T.Fold
	})
}

// letters returns a name of n letters.
func letters(n int) string {
	return strings.Repeat("abcdefghijklmnopqrst", n/20+1)[:n]
}

// P17.1: New

func TestNewIsEmpty(t *testing.T) {
	x := New()
	if x == nil {
		t.Fatal("New: nil")
	}
	holdLen(t, x, 0)
	holdNone(t, x, "a")
	holdDrop(t, x, "a", api.ErrNone)
	holdAhead(t, x, "a", 1, "")
	holdAhead(t, x, "", 0, "")
	holdLen(t, x, 0)
}

// P17.1: the names that Set permits

func TestLengthsOfNames(t *testing.T) {
	for _, n := range []int{0, 1, 2, 3, 18, 19, 20, 21, 22, 40, 1000} {
		for _, letter := range []string{"a", "é", "(", "\U0010FFFF", "\x00"} {
			x := New()
			name := strings.Repeat(letter, n)
			if n == 0 || n > 20 {
				holdSet(t, x, name, "x", api.ErrArg)
				holdLen(t, x, 0)
				holdNone(t, x, name)
				holdDrop(t, x, name, api.ErrNone)
				holdEnd(t, x, name, "")
				continue
			}
			holdSet(t, x, name, "x", api.OK)
			holdLen(t, x, 1)
			holdGet(t, x, name, "x")
			holdEnd(t, x, name, name)
			holdDrop(t, x, name, api.OK)
		}
	}
}

// eachPlace calls f with names in which r is at one place, of all lengths.
func eachPlace(r rune, f func(name []rune)) {
	for n := 1; n <= 20; n++ {
		for at := range n {
			name := []rune(letters(n))
			name[at] = r
			f(name)
		}
	}
}

func holdBarred(t *testing.T, r rune) {
	t.Helper()
	x := table(t, "a")
	eachPlace(r, func(name []rune) {
		if e := x.Set(name, []rune("x")); e != api.ErrArg {
			t.Errorf("Set(%v): %d, want 1", name, e)
		}
		if l, e := x.Get(name); e != api.ErrNone || len(l) != 0 {
			t.Errorf("Get(%v): %v, %d, want none, 4", name, l, e)
		}
		if e := x.Drop(name); e != api.ErrNone {
			t.Errorf("Drop(%v): %d, want 4", name, e)
		}
	})
	holdAll(t, x, "a")
}

func holdPermitted(t *testing.T, r rune) {
	t.Helper()
	x := New()
	want, _, _ := snippet.Parse([]rune("$1x"))
	eachPlace(r, func(name []rune) {
		if e := x.Set(name, []rune("$1x")); e != api.OK {
			t.Errorf("Set(%v): %d, want 0", name, e)
		}
		if l, e := x.Get(name); e != api.OK || !same(l, want) {
			t.Errorf("Get(%v): %v, %d, want %v, 0", name, l, e, want)
		}
		holdAheadRunes(t, x, name, len(name), name)
		if e := x.Drop(name); e != api.OK || x.Len() != 0 {
			t.Errorf("Drop(%v): %d, want 0", name, e)
		}
	})
}

func TestBlanksInNames(t *testing.T) {
	for _, r := range []rune{' ', '\t', 10} {
		holdBarred(t, r)
	}
	for _, r := range []rune{0, 8, 11, 12, 13, 28, 31, 33, 127, 133, 160, 0x1680, 8195, 0x2028, 0x2029, 0x3000, 0xFEFF} {
		holdPermitted(t, r)
	}
}

func TestRunesOfNames(t *testing.T) {
	for _, r := range []rune{math.MinInt32, math.MinInt32 + 1, -65533, -2, -1, 0xD800, 0xD801, 0xDBFF, 0xDC00, 0xDFFE, 0xDFFF, 0x110000, 0x110001, math.MaxInt32 - 1, math.MaxInt32} {
		holdBarred(t, r)
	}
	for _, r := range []rune{0, 1, 127, 128, 255, 256, 0x7FF, 0x800, 0xD7FE, 0xD7FF, 0xE000, 0xE001, 0xFFFD, 0xFFFE, 0xFFFF, 0x10000, 0x10FFFE, 0x10FFFF} {
		holdPermitted(t, r)
	}
	for _, r := range "$\\{}:|/,()_-AZaz09éß漢😀" {
		holdPermitted(t, r)
	}
}

// P17.1: the errors of snippet.Parse

// faulty returns snippets that can't be parsed, with their errors.
func faulty() map[string]api.Errno {
	return map[string]api.Errno{
		"$":                              api.ErrForm,
		"${1":                            api.ErrForm,
		"\\":                             api.ErrForm,
		"a${1/(/x/}":                     api.ErrForm,
		strings.Repeat("${1:", 10):       api.ErrDeep,
		"x" + strings.Repeat("${1:", 10): api.ErrDeep,
		strings.Repeat("x", 401):         api.ErrFull,
		strings.Repeat("$", 1000):        api.ErrFull,
	}
}

func TestSnippetsThatCannotBeParsed(t *testing.T) {
	for text, want := range faulty() {
		if _, _, e := snippet.Parse([]rune(text)); e != want {
			t.Fatalf("Parse(%q): %d, want %d", text, e, want)
		}
		x := table(t, "a")
		holdSet(t, x, "n", text, want)
		holdAll(t, x, "a")
		holdNone(t, x, "n")
		// The snippet that a name has stays.
		holdSet(t, x, "a", text, want)
		holdAll(t, x, "a")
		for _, name := range []string{"", " ", "a b", "\n", "x\t", letters(21), letters(400)} {
			holdSet(t, x, name, text, api.ErrArg)
		}
		holdAll(t, x, "a")
	}
}

func TestSnippetsWithOddRunes(t *testing.T) {
	x := New()
	for _, r := range []rune{math.MinInt32, -2, -1} {
		if e := x.Set([]rune("a"), []rune{'x', r}); e != api.ErrForm {
			t.Errorf("Set(a, %d): %d, want 2", r, e)
		}
	}
	holdLen(t, x, 0)
	for _, r := range []rune{0, 9, 10, ' ', 0xD7FF, 0xD800, 0xDFFF, 0xFFFD, 0x10FFFF, 0x110000, math.MaxInt32} {
		if e := x.Set([]rune("a"), []rune{r, 'x'}); e != api.OK {
			t.Errorf("Set(a, %d): %d, want 0", r, e)
		}
		if l, e := x.Get([]rune("a")); e != api.OK || len(l) != 1 || l[0].Kind != snippet.Text || !slices.Equal(l[0].Name, []rune{r, 'x'}) {
			t.Errorf("Get(a): %v, %d, want %d x", l, e, r)
		}
	}
}

func TestPermittedSnippets(t *testing.T) {
	x := New()
	for _, text := range []string{"", "x", " ", "a b\n", "$1", "${1:a$2}-$1", "${1|a,b|}$x${TM_NAME:d}", "${1/(a)/<$1>/gi}", "\\$\\}", strings.Repeat("x", 399), strings.Repeat("x", 400), strings.Repeat("\\$", 200), strings.Repeat("${1:", 8) + "$2" + strings.Repeat("}", 8)} {
		holdSet(t, x, "a", text, api.OK)
		holdGet(t, x, "a", text)
		holdLen(t, x, 1)
	}
}

func TestEmptySnippets(t *testing.T) {
	for _, text := range [][]rune{nil, {}} {
		x := New()
		if e := x.Set([]rune("a"), text); e != api.OK {
			t.Errorf("Set: %d, want 0", e)
		}
		holdLen(t, x, 1)
		holdGet(t, x, "a", "")
		holdEnd(t, x, "a", "a")
		holdDrop(t, x, "a", api.OK)
		holdNone(t, x, "a")
	}
}

// P17.1: ErrFull

// numbered returns n names.
func numbered(n int) []string {
	var names []string
	for i := range n {
		names = append(names, "n"+string(rune('A'+i)))
	}
	return names
}

func TestFullTable(t *testing.T) {
	for n := range 20 {
		names := numbered(n)
		x := table(t, names...)
		holdAll(t, x, names...)
		holdSet(t, x, "new", snippetOf("new"), api.OK)
		holdAll(t, x, append(names, "new")...)
	}
	names := numbered(20)
	x := table(t, names...)
	for range 2 {
		holdSet(t, x, "new", snippetOf("new"), api.ErrFull)
		holdSet(t, x, "n", snippetOf("n"), api.ErrFull)
		holdNone(t, x, "new")
		holdAll(t, x, names...)
	}
	for i, name := range names {
		holdSet(t, x, name, "other", api.OK)
		holdGet(t, x, name, "other")
		holdSet(t, x, "new", "x", api.ErrFull)
		holdLen(t, x, 20)
		for _, later := range names[i+1:] {
			holdGet(t, x, later, snippetOf(later))
		}
	}
}

// Of several errors, the one that is named first.
func TestFullTableAndOtherErrors(t *testing.T) {
	names := numbered(20)
	x := table(t, names...)
	for text, want := range faulty() {
		holdSet(t, x, "new", text, want)
		holdSet(t, x, "nA", text, want)
		holdSet(t, x, "nT", text, want)
		holdSet(t, x, "n A", text, api.ErrArg)
	}
	holdSet(t, x, "", "x", api.ErrArg)
	holdSet(t, x, "n\t", "x", api.ErrArg)
	holdSet(t, x, letters(21), "x", api.ErrArg)
	holdAll(t, x, names...)
}

func TestDroppedNamesMakeRoom(t *testing.T) {
	names := numbered(20)
	x := table(t, names...)
	for _, name := range names {
		holdDrop(t, x, name, api.OK)
		holdLen(t, x, 19)
		holdNone(t, x, name)
		holdSet(t, x, "new", "a$1", api.OK)
		holdGet(t, x, "new", "a$1")
		holdSet(t, x, name, "b$1", api.ErrFull)
		holdDrop(t, x, "new", api.OK)
		holdSet(t, x, name, snippetOf(name), api.OK)
		holdAll(t, x, names...)
	}
}

// P17.1: Drop, Get and Len

func TestSetAgain(t *testing.T) {
	x := New()
	holdSet(t, x, "a", "1", api.OK)
	holdSet(t, x, "a", "${1:b}", api.OK)
	holdLen(t, x, 1)
	holdGet(t, x, "a", "${1:b}")
	holdSet(t, x, "b", "x", api.OK)
	holdSet(t, x, "a", "", api.OK)
	holdLen(t, x, 2)
	holdGet(t, x, "a", "")
	holdGet(t, x, "b", "x")
	holdDrop(t, x, "a", api.OK)
	holdLen(t, x, 1)
	holdNone(t, x, "a")
	holdDrop(t, x, "a", api.ErrNone)
	holdLen(t, x, 1)
	holdSet(t, x, "a", "2", api.OK)
	holdGet(t, x, "a", "2")
	holdLen(t, x, 2)
}

func TestNamesThatAreNotThere(t *testing.T) {
	names := []string{"abc", "abd", "xyz", letters(20), "AB", "é", "\uFFFD", "a\uFFFDb"}
	x := table(t, names...)
	for _, name := range []string{"", "a", "b", "c", "ab", "bc", "abcd", "xabc", "abe", "aBc", "ABC", "Ab", "ABD", "xy", "yz", "zyx", "e\u0301", "É", " ", "abc ", " abc", "ab c", "\t", "\n", "abc\n", letters(19), letters(20)[1:], letters(21), letters(20) + "x", letters(1000), "\x00", "abc\x00", "\uFFFD\uFFFD", "a\uFFFD", "\uFFFDb"} {
		holdNone(t, x, name)
		holdDrop(t, x, name, api.ErrNone)
		holdAll(t, x, names...)
	}
	if l, e := x.Get(nil); e != api.ErrNone || len(l) != 0 {
		t.Errorf("Get(nil): %v, %d, want none, 4", l, e)
	}
	if e := x.Drop(nil); e != api.ErrNone {
		t.Errorf("Drop(nil): %d, want 4", e)
	}
	holdAll(t, x, names...)
}

// The rune 65533 stands for no other one.
func TestOddRuneIsNoOther(t *testing.T) {
	for _, r := range []rune{math.MinInt32, -1, 0xD800, 0xDFFF, 0x110000, math.MaxInt32} {
		x := table(t, "\uFFFD", "a\uFFFD", "\uFFFDa")
		for _, name := range [][]rune{{r}, {'a', r}, {r, 'a'}} {
			if l, e := x.Get(name); e != api.ErrNone || len(l) != 0 {
				t.Errorf("Get(%v): %v, %d, want none, 4", name, l, e)
			}
			if e := x.Drop(name); e != api.ErrNone {
				t.Errorf("Drop(%v): %d, want 4", name, e)
			}
			if e := x.Set(name, []rune("other")); e != api.ErrArg {
				t.Errorf("Set(%v): %d, want 1", name, e)
			}
			holdAheadRunes(t, x, name, len(name), nil)
			holdAll(t, x, "\uFFFD", "a\uFFFD", "\uFFFDa")
		}
		if r > 0 { // it is a word rune
			holdAheadRunes(t, x, []rune{r, 0xFFFD}, 2, nil)
		}
		holdAheadRunes(t, x, []rune{r, ' ', 0xFFFD}, 3, []rune{0xFFFD})
		holdAheadRunes(t, x, []rune{'a', r, 'a'}, 3, nil)
	}
}

// No part of a rune makes a name, and neither does its encoding.
func TestNamesAreComparedAsRunes(t *testing.T) {
	x := table(t, "é", "Ã©", "\u0101")
	holdAll(t, x, "é", "Ã©", "\u0101")
	for _, name := range [][]rune{{0xC3, 0xA9, 0}, {0xC4, 0x81}, {0xE9 + 256}, {0xE9 + 1<<16}, {0xE9 - 1<<31}, {1}} {
		if _, e := x.Get(name); e != api.ErrNone {
			t.Errorf("Get(%v): %d, want 4", name, e)
		}
	}
}

// P17.1, P17.2: a nil table

func TestNilTable(t *testing.T) {
	var x *Table
	holdSet(t, x, "a", "x", api.ErrFull)
	holdSet(t, x, "a", "", api.ErrFull)
	holdSet(t, x, letters(20), "${1:x}", api.ErrFull)
	for text, want := range faulty() {
		holdSet(t, x, "a", text, want)
		holdSet(t, x, "a b", text, api.ErrArg)
	}
	holdSet(t, x, "", "x", api.ErrArg)
	for _, name := range []string{"", "a", " ", letters(20), letters(21)} {
		holdDrop(t, x, name, api.ErrNone)
		holdNone(t, x, name)
		holdEnd(t, x, name, "")
	}
	holdAhead(t, x, "a", 2, "")
	holdAhead(t, x, "a", -1, "")
	holdLen(t, x, 0)
}

// A table that is there without New is an empty one.
func TestZeroTable(t *testing.T) {
	x := &Table{}
	holdLen(t, x, 0)
	holdNone(t, x, "a")
	holdDrop(t, x, "a", api.ErrNone)
	holdEnd(t, x, "a", "")
	holdSet(t, x, "a", snippetOf("a"), api.OK)
	holdAll(t, x, "a")
}
