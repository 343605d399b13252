package format

import (
	"math"
	"slices"
	"testing"

	"stylus/api"
)

// allKinds has all kinds, and numbers that are none.
func allKinds() []int {
	return []int{math.MinInt, -8, -5, -4, -3, -2, -1, 0, 1, 2, 3, 4, 5, 6, 7, 8, 9, 10, 11, 12, 13, 16, 35, 259, 1 << 32, 1<<32 + 3, math.MaxInt}
}

func holdTurn(t *testing.T, kind int, s, want string) {
	t.Helper()
	if got := Turn(kind, []rune(s)); string(got) != want {
		t.Errorf("Turn(%d, %q): %q, want %q", kind, s, string(got), want)
	}
}

func holdFill(t *testing.T, l []Item, groups [][]rune, want string) {
	t.Helper()
	if got := Fill(l, groups); string(got) != want {
		t.Errorf("Fill(%v, %q): %q, want %q", l, groups, string(got), want)
	}
}

// P7.2: Turn

func TestTurn(t *testing.T) {
	holdTurn(t, Up, "aBz-Éé9 Z", "ABZ-Éé9 Z")
	holdTurn(t, Down, "aBZ-Éé9 z", "abz-Éé9 z")
	holdTurn(t, Capital, "aBz", "ABz")
	holdTurn(t, Capital, "abc def", "Abc def")
	holdTurn(t, Capital, "ABC", "ABC")
}

// turned returns what becomes of a rune where all of a text is converted.
func turned(kind int, r rune) rune {
	switch {
	case (kind == 3 || kind == 5) && r > 96 && r < 123:
		return r - 32
	case kind == 4 && r > 64 && r < 91:
		return r + 32
	}
	return r
}

// Letters beyond ASCII, the runes beside a, z, A and Z, and those that are not
// valid among them.
func TestTurnEachRune(t *testing.T) {
	var l []rune
	for r := rune(-70000); r < 1200000; r++ {
		l = append(l, r)
	}
	for r := rune(-200); r < 200; r++ {
		l = append(l, r+1<<30, r-1<<30, r+math.MaxInt32-200, r+math.MinInt32+200)
	}
	for _, kind := range []int{Up, Down, Plain} {
		for i, r := range Turn(kind, l) {
			if r != turned(kind, l[i]) {
				t.Errorf("Turn(%d): %d became %d", kind, l[i], r)
			}
		}
	}
	for _, kind := range allKinds() {
		for _, r := range l[70000-300 : 70000+9000] {
			if got := Turn(kind, []rune{r}); len(got) != 1 || got[0] != turned(kind, r) {
				t.Errorf("Turn(%d, %d): %d", kind, r, got)
			}
		}
	}
}

func TestEdgesOfCases(t *testing.T) {
	holdTurn(t, Up, "`az{@AZ[", "`AZ{@AZ[")
	holdTurn(t, Down, "`az{@AZ[", "`az{@az[")
	for _, c := range []struct{ s, want string }{{"a", "A"}, {"z", "Z"}, {"`", "`"}, {"{", "{"}, {"A", "A"}, {"Z", "Z"}, {"@", "@"}, {"[", "["}} {
		holdTurn(t, Capital, c.s, c.want)
		holdTurn(t, Capital, c.s+c.s, c.want+c.s)
	}
	for _, kind := range []int{Up, Down, Capital} {
		for _, s := range []string{"éàüßǆ", "ÉÀÜŸǅ", "αω", "ΑΩ", "\uFF5A\uFF41", "\uFF21\uFF3A", "\u0131\u017F\u0130\u212A", "\uFF41"} {
			holdTurn(t, kind, s, s)
		}
	}
}

func TestCapital(t *testing.T) {
	holdTurn(t, Capital, "", "")
	holdTurn(t, Capital, "a", "A")
	holdTurn(t, Capital, "B", "B")
	holdTurn(t, Capital, "1", "1")
	// Only the first rune counts, whether it is a letter or not.
	holdTurn(t, Capital, " abc", " abc")
	holdTurn(t, Capital, "1a", "1a")
	holdTurn(t, Capital, "éa", "éa")
	holdTurn(t, Capital, "-a-b", "-a-b")
	holdTurn(t, Capital, "aa aa\naa", "Aa aa\naa")
	holdTurn(t, Capital, "aBCD", "ABCD")
}

func TestOtherKindsChangeNothing(t *testing.T) {
	for _, kind := range allKinds() {
		if kind != Up && kind != Down && kind != Capital {
			holdTurn(t, kind, "aBzZ-é", "aBzZ-é")
		}
	}
}

func TestTurnNothing(t *testing.T) {
	for _, kind := range allKinds() {
		if l := Turn(kind, nil); len(l) != 0 {
			t.Errorf("Turn(%d, nil): %q", kind, l)
		}
		if l := Turn(kind, []rune{}); len(l) != 0 {
			t.Errorf("Turn(%d, empty): %q", kind, l)
		}
	}
}

// P7.3

func TestTurnedTwice(t *testing.T) {
	texts([]rune{'a', 'z', 'A', 'Z', '`', 'é', -1}, 5, func(s []rune) {
		for _, kind := range allKinds() {
			once := Turn(kind, s)
			if len(once) != len(s) {
				t.Fatalf("Turn(%d, %q) has %d runes", kind, s, len(once))
			}
			if twice := Turn(kind, once); !slices.Equal(twice, once) {
				t.Fatalf("Turn(%d, %q) twice: %q, then %q", kind, s, once, twice)
			}
		}
		up := Turn(Up, s)
		for _, kind := range []int{Up, Capital, Plain} {
			if again := Turn(kind, up); !slices.Equal(again, up) {
				t.Fatalf("%q became %q", up, again)
			}
		}
		if again := Turn(Up, Turn(Down, s)); !slices.Equal(again, up) {
			t.Fatalf("%q: %q, and %q by lower case", s, up, again)
		}
	})
}

// P7.2: Fill

func TestExample(t *testing.T) {
	l, _, e := Parse([]rune("a${1:/upcase}${2:+x}"))
	if e != api.OK {
		t.Fatalf("Parse: %d", e)
	}
	holdFill(t, l, [][]rune{[]rune("whole"), []rune("b"), []rune("c")}, "aBx")
}

// Each kind with a group that is set, and with one that is not. What a kind
// does not ask for is there as well.
func TestEachKind(t *testing.T) {
	groups := [][]rune{[]rune("zero"), []rune("bAR-b"), {}, nil, []rune("four")}
	for _, c := range []struct {
		kind      int
		set, none string
	}{
		{Text, "Yes", "Yes"},
		{Plain, "bAR-b", ""},
		{Up, "BAR-B", ""},
		{Down, "bar-b", ""},
		{Capital, "BAR-b", ""},
		{If, "Yes", ""},
		{Both, "Yes", "No"},
		{Else, "bAR-b", "No"},
	} {
		x := Item{Kind: c.kind, N: 1, Yes: []rune("Yes"), No: []rune("No")}
		holdFill(t, []Item{x}, groups, c.set)
		holdFill(t, []Item{x}, groups[:2], c.set)
		// A group that is empty, one that is nil, and those that do not exist.
		for _, n := range []int{2, 3, 5, 6, 9, 10, 11, 99, 1 << 32, 1<<32 + 1, math.MaxInt, -1, -2, -4, -5, math.MinInt, math.MinInt + 1} {
			x.N = n
			holdFill(t, []Item{x}, groups, c.none)
		}
		for n := range 4 {
			x.N = n
			holdFill(t, []Item{x}, nil, c.none)
			holdFill(t, []Item{x}, [][]rune{}, c.none)
			holdFill(t, []Item{x}, [][]rune{nil, nil, nil, nil}, c.none)
			holdFill(t, []Item{x}, [][]rune{{}, {}, {}, {}}, c.none)
		}
		// Runes behind the end of a list do not count.
		x.N = 1
		holdFill(t, []Item{x}, groups[:1], c.none)
		holdFill(t, []Item{x}, [][]rune{nil, groups[1][:0]}, c.none)
	}
}

func TestTextsThatAreEmpty(t *testing.T) {
	groups := [][]rune{[]rune("aB"), nil}
	for _, c := range []struct {
		kind      int
		set, none string
	}{{Text, "", ""}, {Plain, "aB", ""}, {If, "", ""}, {Both, "", ""}, {Else, "aB", ""}} {
		holdFill(t, []Item{item(c.kind, 0)}, groups, c.set)
		holdFill(t, []Item{item(c.kind, 1)}, groups, c.none)
		holdFill(t, []Item{{Kind: c.kind, N: 0, Yes: []rune{}, No: []rune{}}}, groups, c.set)
		holdFill(t, []Item{{Kind: c.kind, N: 1, Yes: []rune{}, No: []rune{}}}, groups, c.none)
	}
	holdFill(t, []Item{{Kind: Both, N: 0, No: []rune("no")}}, groups, "")
	holdFill(t, []Item{{Kind: Both, N: 1, Yes: []rune("yes")}}, groups, "")
}

func TestEachGroup(t *testing.T) {
	var groups [][]rune
	for n := range 12 {
		groups = append(groups, []rune{'a' + rune(n)})
	}
	for n := range 12 {
		holdFill(t, []Item{item(Plain, n)}, groups, string(rune('a'+n)))
		holdFill(t, []Item{item(Up, n)}, groups, string(rune('A'+n)))
		holdFill(t, []Item{no(n, "no")}, groups, string(rune('a'+n)))
		groups[n] = nil
		holdFill(t, []Item{item(Plain, n)}, groups, "")
		holdFill(t, []Item{no(n, "no")}, groups, "no")
	}
}

func TestOtherKindsAreNothing(t *testing.T) {
	groups := [][]rune{[]rune("a")}
	for _, kind := range allKinds() {
		if kind >= Text && kind <= Else {
			continue
		}
		x := Item{Kind: kind, Yes: []rune("Yes"), No: []rune("No")}
		holdFill(t, []Item{x}, groups, "")
		holdFill(t, []Item{x}, nil, "")
		holdFill(t, []Item{text("x"), x, item(Plain, 0), x}, groups, "xa")
	}
}

func TestFillNothing(t *testing.T) {
	holdFill(t, nil, nil, "")
	holdFill(t, []Item{}, [][]rune{[]rune("a")}, "")
	holdFill(t, []Item{{}}, [][]rune{[]rune("a")}, "")
}

func TestItemsOneAfterTheOther(t *testing.T) {
	groups := [][]rune{[]rune("all"), []rune("hEy"), {}, nil}
	for _, c := range []struct{ s, want string }{
		{"$1$0$1", "hEyallhEy"},
		{"a$1b$2c$3d$4e", "ahEybcde"},
		{"${0:/upcase}${0:/downcase}${0:/capitalize}$0", "ALLallAllall"},
		{"${1:+$2}${2:+$1}${3:+$1}", "$2"},
		{"${1:?a:b}${2:?a:b}${3:?a:b}${9:?a:b}", "abbb"},
		{"${1:a}${2:b}${3:-c}${9:-d}", "hEybcd"},
		// Texts and groups are not parsed again, and texts are not converted.
		{"\\${1}${3:\\$1}${2:-\\\\n}", "${1}$1\\n"},
		{"a${1:/upcase}b", "aHEYb"},
	} {
		l, _, e := Parse([]rune(c.s))
		if e != api.OK {
			t.Errorf("Parse(%q): %d", c.s, e)
		}
		holdFill(t, l, groups, c.want)
	}
	l, _, _ := Parse([]rune("$1${1:/upcase}"))
	holdFill(t, l, [][]rune{nil, []rune("$1\\n${x")}, "$1\\n${x$1\\N${X")
}

// What the runes are does not matter for Fill.
func TestFillWithAnyRunes(t *testing.T) {
	odd := []rune{-1, math.MinInt32, 55296, 1114112, math.MaxInt32}
	l := []Item{{Kind: Text, Yes: odd}, item(Plain, 0), item(Up, 0), item(Down, 0), item(Capital, 0), {Kind: If, Yes: odd}, {Kind: Both, Yes: odd}, {Kind: Both, N: 1, No: odd}, item(Else, 0), {Kind: Else, N: 1, No: odd}}
	if got := Fill(l, [][]rune{odd}); !slices.Equal(got, slices.Repeat(odd, len(l))) {
		t.Errorf("Fill: %d", got)
	}
}

func TestFillIsThatOfEachItem(t *testing.T) {
	choose := steps(3)
	for range 20000 {
		groups := make([][]rune, choose.next(11))
		for i := range groups {
			groups[i] = choose.drawn()
		}
		var l []Item
		var want []rune
		for range choose.next(8) {
			x, _ := choose.item()
			l = append(l, x)
			want = append(want, filled(x, groups)...)
		}
		holdFill(t, l, groups, string(want))
	}
}

// filled returns the text of an item, as the chapter says it.
func filled(x Item, groups [][]rune) []rune {
	var group []rune
	if x.N >= 0 && x.N < len(groups) {
		group = groups[x.N]
	}
	all := map[int][]rune{1: x.Yes, 2: group, 6: x.Yes, 7: x.Yes, 8: group}
	if len(group) == 0 {
		all = map[int][]rune{1: x.Yes, 7: x.No, 8: x.No}
	}
	for i, r := range group {
		all[3] = append(all[3], turned(3, r))
		all[4] = append(all[4], turned(4, r))
		all[5] = append(all[5], r)
		if i == 0 {
			all[5][0] = turned(5, r)
		}
	}
	return all[x.Kind]
}

// P7.2, P0: memory

func TestTurnTakesNewMemory(t *testing.T) {
	for _, kind := range allKinds() {
		s := []rune("aBcD")
		l := Turn(kind, s[:3])
		if string(s) != "aBcD" {
			t.Errorf("Turn(%d): the argument became %q", kind, string(s))
		}
		spoil(l)
		if string(s) != "aBcD" {
			t.Errorf("Turn(%d): the argument became %q with the result", kind, string(s))
		}
		want := string(Turn(kind, s))
		l = Turn(kind, s)
		spoil(s)
		if string(l) != want {
			t.Errorf("Turn(%d): the result became %q with the argument", kind, string(l))
		}
		spoil(Turn(kind, s[:0]))
	}
}

func TestFillTakesNewMemory(t *testing.T) {
	for kind := Text; kind <= Else; kind++ {
		for n := range 2 {
			yes, no, group := []rune("aYes"), []rune("aNo"), []rune("aGroup")
			l := []Item{{Kind: kind, N: n, Yes: yes[:2], No: no[:2]}, {Kind: Text, Yes: []rune("x")}}
			groups := [][]rune{group[:2], nil}
			for i := range l {
				spoil(Fill(l[:i+1], groups))
				spoil(Fill(l[:i], groups))
			}
			if string(yes) != "aYes" || string(no) != "aNo" || string(group) != "aGroup" {
				t.Errorf("kind %d: %q, %q, %q", kind, string(yes), string(no), string(group))
			}
			got := Fill(l, groups)
			want := string(got)
			spoil(yes)
			spoil(no)
			spoil(group)
			if string(got) != want {
				t.Errorf("kind %d: %q became %q", kind, want, string(got))
			}
		}
	}
}

// P0: calls do not depend on others

func TestSameCallsGiveTheSame(t *testing.T) {
	groups := [][]rune{nil, []rune("bC")}
	for range 200 {
		hold(t, "a${1:/upcase}${2:-x}", text("a"), item(Up, 1), no(2, "x"))
		holdFault(t, "a${1:/upcase}${2:-x", 19)
		holdFill(t, []Item{text("a"), item(Up, 1), item(Down, 1), item(Capital, 1), no(2, "x")}, groups, "aBCbcBCx")
		holdTurn(t, Up, "bC", "BC")
		holdTurn(t, Down, "bC", "bc")
		holdTurn(t, Capital, "bC", "BC")
		holdTurn(t, Plain, "bC", "bC")
	}
}
