package pattern

import (
	"math"
	"slices"
	"strings"
	"testing"

	"stylus/api"
)

// sample is a text with the node that it stands for.
type sample struct {
	s string
	x Node
}

func char(r rune) Node {
	return Node{Kind: Char, N: int(r)}
}

// set has spans with these ends, one after the other.
func set(ends ...int) Node {
	x := Node{Kind: Set}
	for i := 0; i < len(ends); i += 2 {
		x.Set = append(x.Set, api.Span{From: ends[i], To: ends[i+1]})
	}
	return x
}

func not(x Node) Node {
	x.Not = true
	return x
}

func group(n int, sub Node) Node {
	return Node{Kind: Group, N: n, Subs: []Node{sub}}
}

func cat(subs ...Node) Node {
	return Node{Kind: Cat, Subs: subs}
}

func alt(subs ...Node) Node {
	return Node{Kind: Alt, Subs: subs}
}

func rep(least, most int, x Node) Node {
	return Node{Kind: Rep, Min: least, Max: most, Subs: []Node{x}}
}

func lazy(x Node) Node {
	x.Lazy = true
	return x
}

// same compares all fields; a nil list and an empty one are the same.
func same(x, y Node) bool {
	return x.Kind == y.Kind && x.N == y.N && x.Min == y.Min && x.Max == y.Max && x.Not == y.Not && x.Lazy == y.Lazy &&
		slices.Equal(x.Set, y.Set) && slices.EqualFunc(x.Subs, y.Subs, same)
}

// hold holds that a pattern is parsed to this node, with so many groups.
func hold(t *testing.T, s []rune, want Node, groups int) {
	t.Helper()
	x, n, at, e := Parse(s)
	if !same(x, want) || n != groups || at != 0 || e != api.OK {
		t.Errorf("Parse(%q): %v, %d, %d, %d, want %v, %d", string(s), x, n, at, e, want, groups)
	}
}

// holdSample holds that a pattern without numbered groups is parsed to its node.
func holdSample(t *testing.T, p sample) {
	t.Helper()
	hold(t, []rune(p.s), p.x, 0)
}

// atoms has each row of the table of atoms, also with several spellings. None
// of them is numbered, so that they can stand side by side.
func atoms() []sample {
	return []sample{
		{"(?:)", group(0, cat())},
		{"(?:a)", group(0, cat(char('a')))},
		{"(?:a|b)", group(0, alt(cat(char('a')), cat(char('b'))))},
		{"(?:(?:a)b)", group(0, cat(group(0, cat(char('a'))), char('b')))},
		{"[a]", set('a', 'a')},
		{"[^a]", not(set('a', 'a'))},
		{"[a-c\\d\\]]", set('a', 'c', '0', '9', ']', ']')},
		{".", not(set(10, 10))},
		{"\\d", set(48, 57)},
		{"\\w", set(48, 57, 65, 90, 95, 95, 97, 122)},
		{"\\s", set(9, 13, 32, 32)},
		{"\\D", not(set(48, 57))},
		{"\\W", not(set(48, 57, 65, 90, 95, 95, 97, 122))},
		{"\\S", not(set(9, 13, 32, 32))},
		{"\\n", char(10)},
		{"\\t", char(9)},
		{"\\\\", char(92)},
		{"\\(", char(40)},
		{"\\)", char(41)},
		{"\\[", char(91)},
		{"\\]", char(93)},
		{"\\{", char(123)},
		{"\\}", char(125)},
		{"\\*", char(42)},
		{"\\+", char(43)},
		{"\\?", char(63)},
		{"\\|", char(124)},
		{"\\.", char(46)},
		{"\\^", char(94)},
		{"\\$", char(36)},
		{"\\-", char(45)},
		{"\\_", char(95)},
		{"\\ ", char(32)},
		{"\\\n", char(10)},
		{"\\é", char(0xE9)},
		{"a", char(97)},
		{"Z", char(90)},
		{"0", char(48)},
		{"n", char(110)},
		{"d", char(100)},
		{"-", char(45)},
		{":", char(58)},
		{",", char(44)},
		{"!", char(33)},
		{"\x00", char(0)},
		{"\n", char(10)},
		{"é", char(0xE9)},
		{"€", char(0x20AC)},
		{"\U0010FFFF", char(0x10FFFF)},
	}
}

// anchors have no repeat.
func anchors() []sample {
	return []sample{{"^", Node{Kind: Begin}}, {"$", Node{Kind: End}}}
}

// repeats repeat the node that is empty.
func repeats() []sample {
	l := []sample{{"*", rep(0, -1, Node{})}, {"+", rep(1, -1, Node{})}, {"?", rep(0, 1, Node{})}}
	for m := range 10 {
		first := string(rune('0' + m))
		l = append(l, sample{"{" + first + "}", rep(m, m, Node{})}, sample{"{" + first + ",}", rep(m, -1, Node{})})
		for n := m; n < 10; n++ {
			l = append(l, sample{"{" + first + "," + string(rune('0'+n)) + "}", rep(m, n, Node{})})
		}
	}
	for _, r := range slices.Clone(l) {
		l = append(l, sample{r.s + "?", lazy(r.x)})
	}
	return l
}

// repeated puts a repeat behind an atom.
func repeated(atom, repeat sample) sample {
	x := repeat.x
	x.Subs = []Node{atom.x}
	return sample{atom.s + repeat.s, x}
}

// P5.1

func TestExamples(t *testing.T) {
	hold(t, []rune("a|(b)*"), alt(cat(char('a')), cat(rep(0, -1, group(1, cat(char('b')))))), 1)
	hold(t, []rune("(a*)(b|c)"), cat(
		group(1, cat(rep(0, -1, char('a')))),
		group(2, alt(cat(char('b')), cat(char('c')))),
	), 2)
}

func TestKindsAreNumbered(t *testing.T) {
	for i, kind := range []int{Char, Set, Begin, End, Group, Cat, Alt, Rep} {
		if kind != i+1 {
			t.Errorf("kind %d is %d", i+1, kind)
		}
	}
}

func TestEmptyPattern(t *testing.T) {
	hold(t, nil, cat(), 0)
	hold(t, []rune{}, cat(), 0)
}

func TestEachAtom(t *testing.T) {
	for _, a := range append(atoms(), anchors()...) {
		holdSample(t, sample{a.s, cat(a.x)})
		holdSample(t, sample{"x" + a.s + "y", cat(char('x'), a.x, char('y'))})
		holdSample(t, sample{"|" + a.s + "|", alt(cat(), cat(a.x), cat())})
		holdSample(t, sample{"(?:" + a.s + ")", cat(group(0, cat(a.x)))})
	}
}

func TestEachRepeatOfEachAtom(t *testing.T) {
	for _, a := range atoms() {
		for _, r := range repeats() {
			p := repeated(a, r)
			holdSample(t, sample{p.s, cat(p.x)})
			holdSample(t, sample{"x" + p.s + "|y", alt(cat(char('x'), p.x), cat(char('y')))})
		}
	}
}

func TestPiecesSideBySide(t *testing.T) {
	var pieces []sample
	for _, a := range atoms() {
		pieces = append(pieces, a)
		for _, r := range []string{"*", "+?", "??", "{2}", "{0,}?", "{3,7}"} {
			i := slices.IndexFunc(repeats(), func(p sample) bool { return p.s == r })
			pieces = append(pieces, repeated(a, repeats()[i]))
		}
	}
	pieces = append(pieces, anchors()...)
	for _, first := range pieces {
		for _, second := range pieces {
			holdSample(t, sample{first.s + second.s, cat(first.x, second.x)})
		}
	}
}

func TestRepeatOfNumberedGroup(t *testing.T) {
	for _, r := range repeats() {
		p := repeated(sample{"(a)", group(1, cat(char('a')))}, r)
		hold(t, []rune(p.s+"(b)"), cat(p.x, group(2, cat(char('b')))), 2)
	}
}

func TestBranches(t *testing.T) {
	branches := []sample{
		{"", cat()}, {"a", cat(char('a'))}, {"bc", cat(char('b'), char('c'))}, {"d*?", cat(lazy(rep(0, -1, char('d'))))}, {"^", cat(Node{Kind: Begin})}, {"[|]", cat(set('|', '|'))}, {"\\|", cat(char('|'))},
	}
	for _, p := range branches {
		holdBranches(t, p.s, p.x)
		for _, q := range branches {
			holdBranches(t, p.s+"|"+q.s, alt(p.x, q.x))
			for _, r := range branches {
				holdBranches(t, p.s+"|"+q.s+"|"+r.s, alt(p.x, q.x, r.x))
			}
		}
	}
	holdBranches(t, "||||||", alt(cat(), cat(), cat(), cat(), cat(), cat(), cat()))
}

// holdBranches holds that branches are parsed to a node, on their own and in groups.
func holdBranches(t *testing.T, s string, x Node) {
	t.Helper()
	hold(t, []rune(s), x, 0)
	hold(t, []rune("("+s+")"), cat(group(1, x)), 1)
	hold(t, []rune("(?:"+s+")"), cat(group(0, x)), 0)
	hold(t, []rune("(?:("+s+"))+|("+s+")"), alt(cat(rep(1, -1, group(0, cat(group(1, x))))), cat(group(2, x))), 2)
}

func TestSets(t *testing.T) {
	for _, p := range []sample{
		{"a", set('a', 'a')},
		{"ba", set('b', 'b', 'a', 'a')},
		{"aa", set('a', 'a', 'a', 'a')},
		{"a-a", set('a', 'a')},
		{"a-c", set('a', 'c')},
		{"a-cb-d", set('a', 'c', 'b', 'd')},
		{"x-za-c", set('x', 'z', 'a', 'c')},
		{"a-cx", set('a', 'c', 'x', 'x')},
		{"xa-c", set('x', 'x', 'a', 'c')},
		{" -~", set(32, 126)},
		{"\x00-\U0010FFFF", set(0, 0x10FFFF)},
		{"é-€", set(0xE9, 0x20AC)},
		{"\\]", set(']', ']')},
		{"\\\\", set('\\', '\\')},
		{"\\-", set('-', '-')},
		{"\\^", set('^', '^')},
		{"a\\^", set('a', 'a', '^', '^')},
		{"\\n", set(10, 10)},
		{"\\t", set(9, 9)},
		{"\\d", set(48, 57)},
		{"\\w", set(48, 57, 65, 90, 95, 95, 97, 122)},
		{"\\s", set(9, 13, 32, 32)},
		{"\\d\\d", set(48, 57, 48, 57)},
		{"\\s\\dx", set(9, 13, 32, 32, 48, 57, 'x', 'x')},
		{"x\\w", set('x', 'x', 48, 57, 65, 90, 95, 95, 97, 122)},
		{"a-c\\d", set('a', 'c', 48, 57)},
		{"\\da-c", set(48, 57, 'a', 'c')},
		{"dws", set('d', 'd', 'w', 'w', 's', 's')},
		{"DWSnt", set('D', 'D', 'W', 'W', 'S', 'S', 'n', 'n', 't', 't')},
		{"\\t-\\n", set(9, 10)},
		{"\\n-n", set(10, 'n')},
		{"\\--\\]", set('-', ']')},
		{"\\[-\\]", set('[', ']')},
		{"[-\\^", set('[', '^')},
		{"\\\\-\\]", set('\\', ']')},
		{"\\]-\\]", set(']', ']')},
		{"\\^-a", set('^', 'a')},
		{"+-\\-", set('+', '-')},
		{"\\--a", set('-', 'a')},
		{"\\.\\$\\(\\ \\é", set('.', '.', '$', '$', '(', '(', ' ', ' ', 0xE9, 0xE9)},
		{"()[{}*+?|.$", set('(', '(', ')', ')', '[', '[', '{', '{', '}', '}', '*', '*', '+', '+', '?', '?', '|', '|', '.', '.', '$', '$')},
		{"[a", set('[', '[', 'a', 'a')},
		{"(?:", set('(', '(', '?', '?', ':', ':')},
	} {
		holdSample(t, sample{"[" + p.s + "]", cat(p.x)})
		holdSample(t, sample{"[^" + p.s + "]", cat(not(p.x))})
		holdSample(t, sample{"[" + p.s + "][^" + p.s + "]?-", cat(p.x, rep(0, 1, not(p.x)), char('-'))})
	}
}

// someRunes has all of ASCII, and runes at ends of what is valid and beyond them.
func someRunes() []rune {
	l := []rune{128, 0xE9, 0x301, 0x660, 0x20AC, 55295, 55296, 57343, 57344, 0xFFFD, 0xFFFF, 65536, 1114111, 1114112, 1 << 24, math.MaxInt32 - 1, math.MaxInt32}
	for r := range rune(128) {
		l = append(l, r)
	}
	return l
}

const lettersAndDigits = "0123456789ABCDEFGHIJKLMNOPQRSTUVWXYZabcdefghijklmnopqrstuvwxyz"

func TestEachRuneAsAtom(t *testing.T) {
	for _, r := range someRunes() {
		if strings.ContainsRune("()[]{}*+?|\\.^$", r) {
			continue
		}
		hold(t, []rune{r}, cat(char(r)), 0)
		hold(t, []rune{r, '+', r}, cat(rep(1, -1, char(r)), char(r)), 0)
	}
}

func TestEachRuneBehindBackslash(t *testing.T) {
	for _, r := range someRunes() {
		if strings.ContainsRune(lettersAndDigits, r) {
			continue
		}
		hold(t, []rune{'\\', r}, cat(char(r)), 0)
		hold(t, []rune{'\\', r, '*', 'x'}, cat(rep(0, -1, char(r)), char('x')), 0)
		hold(t, []rune{'[', '\\', r, ']'}, cat(set(int(r), int(r))), 0)
	}
	for _, r := range lettersAndDigits {
		if !strings.ContainsRune("dwsDWSnt", r) {
			holdFault(t, "\\"+string(r), 1, api.ErrForm)
			holdFault(t, "a\\"+string(r)+"b", 2, api.ErrForm)
		}
		if !strings.ContainsRune("dwsnt", r) {
			holdFault(t, "[\\"+string(r)+"]", 2, api.ErrForm)
			holdFault(t, "[^a\\"+string(r)+"]", 4, api.ErrForm)
			holdFault(t, "[\n-\\"+string(r)+"]", 4, api.ErrForm)
		}
	}
}

func TestEachRuneInSet(t *testing.T) {
	for _, r := range someRunes() {
		if strings.ContainsRune("]\\-^", r) {
			continue
		}
		hold(t, []rune{'[', r, ']'}, cat(set(int(r), int(r))), 0)
		hold(t, []rune{'[', '^', r, 'a', ']'}, cat(not(set(int(r), int(r), 'a', 'a'))), 0)
	}
}

// spellings returns how a rune may be written in a set.
func spellings(r rune) [][]rune {
	var l [][]rune
	if !strings.ContainsRune("]\\-^", r) {
		l = append(l, []rune{r})
	}
	if !strings.ContainsRune(lettersAndDigits, r) {
		l = append(l, []rune{'\\', r})
	}
	switch r {
	case 10:
		l = append(l, []rune{'\\', 'n'})
	case 9:
		l = append(l, []rune{'\\', 't'})
	}
	return l
}

// All pairs of runes: the place of a fault is that at which the second one
// begins, with its \ if it has one.
func TestAllSpansOfSets(t *testing.T) {
	for _, first := range someRunes() {
		for _, second := range someRunes() {
			for _, a := range spellings(first) {
				for _, b := range spellings(second) {
					holdSpan(t, first, second, a, b)
				}
			}
		}
	}
}

func holdSpan(t *testing.T, first, second rune, a, b []rune) {
	t.Helper()
	s := slices.Concat([]rune{'['}, a, []rune{'-'}, b, []rune{']'})
	if first <= second {
		hold(t, s, cat(set(int(first), int(second))), 0)
		return
	}
	holdFaultOf(t, s, 1+len(a)+1, api.ErrForm)
}

func TestAllCounts(t *testing.T) {
	for m := '0'; m <= '9'; m++ {
		for n := '0'; n <= '9'; n++ {
			s := "a{" + string(m) + "," + string(n) + "}"
			if m > n {
				holdFault(t, s, 4, api.ErrForm)
				holdFault(t, s+"?", 4, api.ErrForm)
				holdFault(t, s[:5], 4, api.ErrForm)
				continue
			}
			holdSample(t, sample{s, cat(rep(int(m-'0'), int(n-'0'), char('a')))})
		}
	}
}

// holdFields holds that all nodes have no fields but those of their kinds.
func holdFields(t *testing.T, s string, x Node) {
	t.Helper()
	bare := Node{Kind: x.Kind, Subs: x.Subs}
	switch x.Kind {
	case Char, Group:
		bare.N = x.N
	case Set:
		bare.Not, bare.Set = x.Not, x.Set
	case Rep:
		bare.Min, bare.Max, bare.Lazy = x.Min, x.Max, x.Lazy
	}
	if !same(x, bare) {
		t.Errorf("Parse(%q): %v has fields without a meaning", s, x)
	}
	for _, sub := range x.Subs {
		holdFields(t, s, sub)
	}
}

func TestFieldsWithoutMeaningAreZero(t *testing.T) {
	for _, s := range []string{"^(a|[^b]{2,3}?)*$", "(?:\\D+?|.)??(x)", "()|(?:)|"} {
		x, _, _, _ := Parse([]rune(s))
		holdFields(t, s, x)
	}
}

// P5.1, P0: memory

func TestArgumentStaysAndIsNotKept(t *testing.T) {
	s := []rune("(a|[b-d\\w]{2,}?)^.\\n$")
	given := slices.Clone(s)
	x, _, _, _ := Parse(s[:len(s):len(s)])
	if !slices.Equal(s, given) {
		t.Errorf("the argument became %q", string(s))
	}
	y, _, _, _ := Parse(given)
	for i := range s {
		s[i] = 'z'
	}
	if !same(x, y) {
		t.Errorf("%v became %v", y, x)
	}
}

func TestRunesBehindTheArgumentDoNotCount(t *testing.T) {
	s := []rune("(?:a)*b{2,3}?")
	for i := range s {
		again := []rune(string(s[:i]))
		x, groups, at, e := Parse(s[:i])
		y, groupsAgain, atAgain, errnoAgain := Parse(again)
		if !same(x, y) || groups != groupsAgain || at != atAgain || e != errnoAgain {
			t.Errorf("Parse(%q) as a part: %v, %d, %d, %d, want %v, %d, %d, %d", string(s[:i]), x, groups, at, e, y, groupsAgain, atAgain, errnoAgain)
		}
	}
}

// spoil overwrites what a node holds, also beyond the ends of its lists.
func spoil(x Node) {
	spans := x.Set[:cap(x.Set)]
	for i := range spans {
		spans[i] = api.Span{From: -7, To: -7}
	}
	for i, sub := range x.Subs {
		spoil(sub)
		x.Subs[i] = Node{Kind: -7}
	}
}

func TestResultsShareNothing(t *testing.T) {
	s := []rune("[\\d][\\d]\\d\\w\\W[\\w~].(a)*.")
	want, groups, _, e := Parse(s)
	if e != api.OK {
		t.Fatalf("Parse: %d", e)
	}
	for i := range want.Subs {
		x, _, _, _ := Parse(s)
		spoil(x.Subs[i])
		for j := range x.Subs {
			if j != i && !same(x.Subs[j], want.Subs[j]) {
				t.Errorf("%v became %v with piece %d", want.Subs[j], x.Subs[j], i)
			}
		}
		hold(t, s, want, groups)
	}
}

// P5.2

// begun is a group that begins: its number, and in how many others it is.
type begun struct{ n, depth int }

// groupsOf returns the groups of a node, each ahead of those in it.
func groupsOf(x Node, depth int) []begun {
	var l []begun
	if x.Kind == Group {
		l = append(l, begun{x.N, depth})
		depth++
	}
	for _, sub := range x.Subs {
		l = append(l, groupsOf(sub, depth)...)
	}
	return l
}

// nestings calls f for all patterns of so many groups, each with or without a
// number, with the groups in the order in which they begin.
func nestings(s string, left, open, numbered int, known []begun, f func(s string, known []begun, numbered int)) {
	if left == 0 && open == 0 {
		f(s, known, numbered)
		return
	}
	if open > 0 {
		nestings(s+")", left, open-1, numbered, known, f)
	}
	if left > 0 {
		known = known[:len(known):len(known)]
		nestings(s+"(", left-1, open+1, numbered+1, append(known, begun{numbered + 1, open}), f)
		nestings(s+"(?:", left-1, open+1, numbered, append(known, begun{0, open}), f)
	}
}

func TestNumbersInTheOrderOfBeginnings(t *testing.T) {
	for count := range 7 {
		nestings("", count, 0, 0, nil, func(s string, known []begun, numbered int) {
			x, groups, at, e := Parse([]rune(s))
			if got := groupsOf(x, 0); !slices.Equal(got, known) || groups != numbered || at != 0 || e != api.OK {
				t.Errorf("Parse(%q): %v, %d, %d, %d, want %v, %d", s, got, groups, at, e, known, numbered)
			}
		})
	}
}

func TestNumbersAmongOtherPieces(t *testing.T) {
	for _, c := range []struct {
		s    string
		want []begun
	}{
		{"((a)(?:b))(c)", []begun{{1, 0}, {2, 1}, {0, 1}, {3, 0}}},
		{"x(a|(b)*|c)+|[(](d)\\(", []begun{{1, 0}, {2, 1}, {3, 0}}},
		{"(?:(a)|(b(c)))(d)", []begun{{0, 0}, {1, 1}, {2, 1}, {3, 2}, {4, 0}}},
		{"(((((((a)))))))", []begun{{1, 0}, {2, 1}, {3, 2}, {4, 3}, {5, 4}, {6, 5}, {7, 6}}},
		{"(a){2}(b){2,}(c){2,3}?", []begun{{1, 0}, {2, 0}, {3, 0}}},
		{"(a)|(b)|(?:c)|(d)", []begun{{1, 0}, {2, 0}, {0, 0}, {3, 0}}},
		{"(:)(\\?:)(?:)([?]:)", []begun{{1, 0}, {2, 0}, {0, 0}, {3, 0}}},
	} {
		x, groups, at, e := Parse([]rune(c.s))
		numbered := 0
		for _, b := range c.want {
			numbered = max(numbered, b.n)
		}
		if got := groupsOf(x, 0); !slices.Equal(got, c.want) || groups != numbered || at != 0 || e != api.OK {
			t.Errorf("Parse(%q): %v, %d, %d, %d, want %v, %d", c.s, got, groups, at, e, c.want, numbered)
		}
	}
}
