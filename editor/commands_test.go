package editor

import (
	"math"
	"reflect"
	"testing"

	"stylus/api"
	"stylus/keymap"
	"stylus/keys"
	"stylus/motion"
)

// P24.2: the commands of the table

// answers are what is told behind a start and each of the keys.
type answers map[string]string

// hold holds what is told behind a start and a key, for each command.
func (l answers) hold(t *testing.T, start string) {
	t.Helper()
	for _, k := range commandKeys {
		want, is := l[k]
		if !is {
			t.Errorf("%q: nothing for %q", start, k)
			continue
		}
		p := newPair(t).name("fn", "func ${1:name}(${2|a,b|}) { $1 }$0").feed(start)
		p.want(k, want)
		// At once, too.
		newPair(t).name("fn", "func ${1:name}(${2|a,b|}) { $1 }$0").want(start+k, want)
	}
}

func TestCommandsInAnEmptyText(t *testing.T) {
	answers{
		"a": "a|", line: "\n|", enter: "|", abort: "|",
		lineStart: "|", lineEnd: "|", left: "|", right: "|", wordLeft: "|", wordRight: "|", up: "|", down: "|", toStart: "|", toEnd: "|",
		leftMore: "|", rightMore: "|", wordLMore: "|", wordRMore: "|", startMore: "|", endMore: "|", upMore: "|", downMore: "|",
		back: "|", del: "|", killWord: "|", killLine: "|", transpose: "|", yank: "| !4",
		undone: "| !4", redone: "| !4", tab: "| !4", field: "| !4", choice: "| !4", other: "| !4",
		caretUp: "| !4", caretDown: "| !4", one: "|", older: "| !4", newer: "| !4", search: "| !4",
	}.hold(t, "")
}

func TestCommandsAtTheEnd(t *testing.T) {
	const as = "ab\ncd|"
	answers{
		"a": "ab\ncda|", line: "ab\ncd\n|", enter: "|", abort: "|",
		lineStart: "ab\n|cd", lineEnd: as, left: "ab\nc|d", right: as, wordLeft: "ab\n|cd", wordRight: as, up: "ab|\ncd", down: as, toStart: "|ab\ncd", toEnd: as,
		leftMore: "ab\nc<d]", rightMore: as, wordLMore: "ab\n<cd]", wordRMore: as, startMore: "ab\n<cd]", endMore: as, upMore: "ab<\ncd]", downMore: as,
		back: "ab\nc|", del: as, killWord: as, killLine: as, transpose: "ab\ndc|", yank: as + " !4",
		undone: "ab\n|", redone: as + " !4", tab: as + " !4", field: as + " !4", choice: as + " !4", other: as + " !4",
		caretUp: "ab|\ncd|", caretDown: as + " !4", one: as, older: as + " !4", newer: as + " !4", search: as + " !4",
	}.hold(t, "ab"+line+"cd")
}

func TestCommandsAtTheBeginning(t *testing.T) {
	const as = "|ab\ncd"
	answers{
		"a": "a|ab\ncd", line: "\n|ab\ncd", enter: "|", abort: "|",
		lineStart: as, lineEnd: "ab|\ncd", left: as, right: "a|b\ncd", wordLeft: as, wordRight: "ab|\ncd", up: as, down: "ab\n|cd", toStart: as, toEnd: "ab\ncd|",
		leftMore: as, rightMore: "[a>b\ncd", wordLMore: as, wordRMore: "[ab>\ncd", startMore: as, endMore: "[ab>\ncd", upMore: as, downMore: "[ab\n>cd",
		back: as, del: "|b\ncd", killWord: "|\ncd", killLine: "|\ncd", transpose: as, yank: as + " !4",
		undone: "ab\n|", redone: as + " !4", tab: as + " !4", field: as + " !4", choice: as + " !4", other: as + " !4",
		caretUp: as + " !4", caretDown: "|ab\n|cd", one: as, older: as + " !4", newer: as + " !4", search: as + " !4",
	}.hold(t, "ab"+line+"cd"+toStart)
}

func TestCommandsInTheMidst(t *testing.T) {
	const as = "ab|\ncd\n"
	answers{
		"a": "aba|\ncd\n", line: "ab\n|\ncd\n", enter: "|", abort: "|",
		lineStart: "|ab\ncd\n", lineEnd: as, left: "a|b\ncd\n", right: "ab\n|cd\n", wordLeft: "|ab\ncd\n", wordRight: "ab\ncd|\n", up: as, down: "ab\ncd|\n", toStart: "|ab\ncd\n", toEnd: "ab\ncd\n|",
		leftMore: "a<b]\ncd\n", rightMore: "ab[\n>cd\n", wordLMore: "<ab]\ncd\n", wordRMore: "ab[\ncd>\n", startMore: "<ab]\ncd\n", endMore: as, upMore: as, downMore: "ab[\ncd>\n",
		back: "a|\ncd\n", del: "ab|cd\n", killWord: "ab|\n", killLine: "ab|cd\n", transpose: "a\nb|cd\n", yank: as + " !4",
		undone: "ab\ncd|", redone: as + " !4", tab: as + " !4", field: as + " !4", choice: as + " !4", other: as + " !4",
		caretUp: as + " !4", caretDown: "ab|\ncd|\n", one: as, older: as + " !4", newer: as + " !4", search: as + " !4",
	}.hold(t, "ab"+line+"cd"+line+toStart+lineEnd)
}

func TestCommandsWithASelection(t *testing.T) {
	const as = "ab<c]"
	answers{
		"a": "aba|", line: "ab\n|", enter: "|", abort: "|",
		lineStart: "|abc", lineEnd: "abc|", left: "ab|c", right: "abc|", wordLeft: "|abc", wordRight: "abc|", up: "ab|c", down: "ab|c", toStart: "|abc", toEnd: "abc|",
		leftMore: "a<bc]", rightMore: "abc|", wordLMore: "<abc]", wordRMore: "abc|", startMore: "<abc]", endMore: "abc|", upMore: as, downMore: as,
		back: "ab|", del: "ab|", killWord: "ab|", killLine: "ab|", transpose: "acb|", yank: as + " !4",
		undone: "|", redone: as + " !4", tab: as + " !4", field: as + " !4", choice: as + " !4", other: as + " !4",
		caretUp: as + " !4", caretDown: as + " !4", one: "ab|c", older: as + " !4", newer: as + " !4", search: as + " !4",
	}.hold(t, "abc"+leftMore)
}

func TestCommandsWithSeveralCarets(t *testing.T) {
	const as = "ab|\ncd|"
	answers{
		"a": "aba|\ncda|", line: "ab\n|\ncd\n|", enter: "|", abort: "|",
		lineStart: "|ab\n|cd", lineEnd: as, left: "a|b\nc|d", right: "ab\n|cd|", wordLeft: "|ab\n|cd", wordRight: "ab\ncd|", up: "ab|\ncd", down: "ab\ncd|", toStart: "|ab\ncd", toEnd: "ab\ncd|",
		leftMore: "a<b]\nc<d]", rightMore: "ab[\n>cd|", wordLMore: "<ab]\n<cd]", wordRMore: "ab[\ncd>", startMore: "<ab]\n<cd]", endMore: as, upMore: "ab<\ncd]", downMore: "ab[\ncd>",
		back: "a|\nc|", del: "ab|cd|", killWord: "ab|", killLine: "ab|cd|", transpose: "a\nb|dc|", yank: as + " !4",
		undone: "ab\n|", redone: as + " !4", tab: as + " !4", field: as + " !4", choice: as + " !4", other: as + " !4",
		caretUp: as + " !4", caretDown: as + " !4", one: "ab|\ncd", older: as + " !4", newer: as + " !4", search: as + " !4",
	}.hold(t, "ab"+line+"cd"+caretUp)
}

func TestCommandsWithSeveralSelections(t *testing.T) {
	const as = "<ab]\n<cd]"
	answers{
		"a": "a|\na|", line: "\n|\n\n|", enter: "|", abort: "|",
		lineStart: "|ab\n|cd", lineEnd: "ab|\ncd|", left: "|ab\n|cd", right: "ab|\ncd|", wordLeft: "|ab\ncd", wordRight: "ab|\ncd|", up: "|ab\ncd", down: "ab\n|cd", toStart: "|ab\ncd", toEnd: "ab\ncd|",
		leftMore: "<ab\ncd]", rightMore: "a<b]\nc<d]", wordLMore: "<ab\ncd]", wordRMore: "ab|\ncd|", startMore: as, endMore: "ab|\ncd|", upMore: "<ab\ncd]", downMore: "ab[\ncd>",
		back: "|\n|", del: "|\n|", killWord: "|\n|", killLine: "|\n|", transpose: "|abc\n|d", yank: as + " !4",
		undone: "ab\n|", redone: as + " !4", tab: as + " !4", field: as + " !4", choice: as + " !4", other: as + " !4",
		caretUp: as + " !4", caretDown: as + " !4", one: "|ab\ncd", older: as + " !4", newer: as + " !4", search: as + " !4",
	}.hold(t, "ab"+line+"cd"+caretUp+startMore)
}

func TestCommandsInASession(t *testing.T) {
	const as = "func [name>(a) { name } /1"
	answers{
		"a": "func a|(a) { a } /1", line: "func \n|(a) { \n } /1", enter: "|", abort: "|",
		lineStart: "|func name(a) { name } /1", lineEnd: "func name(a) { name }| /1", left: "func |name(a) { name } /1", right: "func name|(a) { name } /1",
		wordLeft: "func |name(a) { name } /1", wordRight: "func name(a|) { name } /1", up: "func name|(a) { name } /1", down: "func name|(a) { name } /1",
		toStart: "|func name(a) { name } /1", toEnd: "func name(a) { name }| /1",
		leftMore: "func [nam>e(a) { name } /1", rightMore: "func [name(>a) { name } /1", wordLMore: "func |name(a) { name } /1", wordRMore: "func [name(a>) { name } /1",
		startMore: "<func ]name(a) { name } /1", endMore: "func [name(a) { name }> /1", upMore: as, downMore: as,
		back: "func |(a) {  } /1", del: "func |(a) {  } /1", killWord: "func |(a) {  } /1", killLine: "func |(a) {  } /1", transpose: "func nam(e|a) { nam(e } /1", yank: as + " !4",
		undone: "fn|", redone: as + " !4", tab: "func name([a>) { name } /2", field: as + " !4", choice: as + " !4", other: as + " !4",
		caretUp: as + " !4", caretDown: as + " !4", one: "func [name>(a) { name }", older: as + " !4", newer: as + " !4", search: as + " !4",
	}.hold(t, "fn"+tab)
}

func TestCommandsAtAChoice(t *testing.T) {
	const as = "func name([a>) { name } /2"
	answers{
		"a": "func name(a|) { name } /2", line: "func name(\n|) { name } /2", enter: "|", abort: "|",
		lineStart: "|func name(a) { name } /2", lineEnd: "func name(a) { name }| /2", left: "func name(|a) { name } /2", right: "func name(a|) { name } /2",
		wordLeft: "func name(|a) { name } /2", wordRight: "func name(a) { name| } /2", up: "func name(a|) { name } /2", down: "func name(a|) { name } /2",
		toStart: "|func name(a) { name } /2", toEnd: "func name(a) { name }| /2",
		leftMore: "func name(|a) { name } /2", rightMore: "func name([a)> { name } /2", wordLMore: "func name(|a) { name } /2", wordRMore: "func name([a) { name> } /2",
		startMore: "<func name(]a) { name } /2", endMore: "func name([a) { name }> /2", upMore: as, downMore: as,
		back: "func name(|) { name } /2", del: "func name(|) { name } /2", killWord: "func name(|) { name } /2", killLine: "func name(|) { name } /2", transpose: "func name()a| { name } /2", yank: as + " !4",
		undone: "fn|", redone: as + " !4", tab: "func name(a) { name }|", field: "func [name>(a) { name } /1", choice: "func name([b>) { name } /2", other: "func name([b>) { name } /2",
		caretUp: as + " !4", caretDown: as + " !4", one: "func name([a>) { name }", older: as + " !4", newer: as + " !4", search: as + " !4",
	}.hold(t, "fn"+tab+tab)
}

// No key extends to the beginning or the end of the text, but there are commands.
func TestExtendToStartAndEnd(t *testing.T) {
	for _, c := range []struct {
		kind        int
		start, want string
	}{
		{motion.Start, "ab\nc" + left, "<ab\n]c"},
		{motion.End, "ab\nc" + up, "a[b\nc>"},
		{motion.Start, "", "|"},
		{motion.End, "fn" + tab, "func [name(a) { name }> /1"},
	} {
		p := newPair(t).name("fn", "func ${1:name}(${2|a,b|}) { $1 }$0").feed(c.start)
		k := keys.Key{Kind: keys.Char, Rune: 's', Mods: 4}
		for _, m := range []*keymap.Map{p.typed.keymap, p.fed.keymap, p.words.keymap} {
			if e := m.Bind(k, keymap.Extend+c.kind); e != api.OK {
				t.Fatalf("Bind: %d", e)
			}
		}
		p.want("\x13", c.want)
	}
}

// The code is that of the last command; a key without a command has the code 0.
func TestCode(t *testing.T) {
	e := started(t, 2, 8)
	for i, c := range []struct {
		k    keys.Key
		want int
	}{
		{keys.Key{Kind: keys.Char, Rune: 'z', Mods: 4}, 4},
		{keys.Key{Kind: keys.Char, Rune: 'z', Mods: 4}, 4},
		{keys.Key{Kind: keys.Char, Rune: 'o', Mods: 4}, 0},
		{keys.Key{Kind: keys.Tab}, 4},
		{keys.Key{}, 0},
		{keys.Key{Kind: keys.Char, Rune: 'y', Mods: 4}, 4},
		{keys.Key{Kind: keys.Char, Rune: 'a'}, 0},
	} {
		if got := e.Do(c.k); got != c.want || e.See().Code != c.want {
			t.Errorf("%d: %d and %d, want %d", i, got, e.See().Code, c.want)
		}
	}
	// What is not a command leaves the code as it is.
	e.Do(keys.Key{Kind: keys.Tab})
	e.Feed(nil)
	e.Feed([]byte("\x1b[1;5"))
	e.Flush()
	e.Size(3, 3)
	e.Name([]rune("a"), nil)
	e.Value(nil, nil)
	e.Open()
	if s := e.See(); s.Code != 4 {
		t.Errorf("Code: %d", s.Code)
	}
	e.Feed([]byte("\x1b[99~\x00"))
	if s := e.See(); s.Code != 0 {
		t.Errorf("Code: %d", s.Code)
	}
}

// P24.2: keys that keymap.Find gives no command do nothing.
func TestKeysWithoutCommands(t *testing.T) {
	runes := []rune{'a', 'q', '[', 0, 10, 31, 127, -1, 0xD800, 0x110000, math.MinInt32, math.MaxInt32, 0x4E2D}
	numbers := []int{math.MinInt, -1, 0, 1, 2, 3, 4, 5, 6, 7, 8, 9, 12, 13, 99, math.MaxInt}
	m := keymap.New()
	for _, start := range []string{"", "ab", "ab" + undone, "fn" + tab + "x", "ab" + line + "c" + caretUp + leftMore, "ab" + enter + older} {
		p := newPair(t).name("fn", "${1:a}$1").feed(start)
		before := p.words.see()
		x, is := p.words.open()
		before.Code = 0
		for _, kind := range numbers {
			for _, r := range runes {
				for _, mods := range numbers {
					k := keys.Key{Kind: kind, Rune: r, Mods: mods}
					if m.Find(k) != 0 {
						continue
					}
					if code := p.typed.Do(k); code != 0 {
						t.Errorf("Do(%v): %d", k, code)
					}
				}
			}
		}
		s := p.typed.See()
		y, open := p.typed.Open()
		if !sameSeen(s, before) || is != open || !sameSession(x, y) {
			t.Errorf("%q: %s, want %s", start, told(s, y, open), told(before, x, is))
		}
	}
	// A run goes on over them.
	newPair(t).want("a"+noKey+"b"+undone, "|")
}

// T1: with an error nothing changes, but for the draft and the code.
func TestErrorsChangeNothing(t *testing.T) {
	errors := 0
	for _, start := range starts {
		for _, k := range commandKeys {
			p := newPair(t).namesFor(start).feed(start)
			q := newPair(t).namesFor(start).feed(start + k)
			if q.typed.code == 0 {
				continue
			}
			errors++
			for _, e := range [][2]*Editor{{p.typed, q.typed}, {p.fed, q.fed}} {
				if k == older || k == search {
					e[0].draft = e[1].draft
				}
				e[0].code = e[1].code
				e[0].decoder = e[1].decoder // which has nothing to do with it
				if !reflect.DeepEqual(e[0], e[1]) {
					t.Errorf("%q, %q: something changed", start, k)
				}
			}
		}
	}
	if errors < 500 {
		t.Errorf("%d errors", errors)
	}
}
