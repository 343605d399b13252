package pike

import (
	"math"
	"slices"
	"testing"

	"stylus/api"
	"stylus/pattern"
)

// wrong is a node without a Kind.
var wrong = pattern.Node{}

func char(r rune) pattern.Node {
	return pattern.Node{Kind: pattern.Char, N: int(r)}
}

// set has spans with these ends, one after the other.
func set(ends ...int) pattern.Node {
	return pattern.Node{Kind: pattern.Set, Set: ranges(ends...)}
}

func notSet(ends ...int) pattern.Node {
	return pattern.Node{Kind: pattern.Set, Not: true, Set: ranges(ends...)}
}

func ranges(ends ...int) []api.Span {
	var l []api.Span
	for i := 0; i < len(ends); i += 2 {
		l = append(l, api.Span{From: ends[i], To: ends[i+1]})
	}
	return l
}

func begin() pattern.Node {
	return pattern.Node{Kind: pattern.Begin}
}

func end() pattern.Node {
	return pattern.Node{Kind: pattern.End}
}

func group(n int, subs ...pattern.Node) pattern.Node {
	return pattern.Node{Kind: pattern.Group, N: n, Subs: subs}
}

func cat(subs ...pattern.Node) pattern.Node {
	return pattern.Node{Kind: pattern.Cat, Subs: subs}
}

func alt(subs ...pattern.Node) pattern.Node {
	return pattern.Node{Kind: pattern.Alt, Subs: subs}
}

func rep(least, most int, subs ...pattern.Node) pattern.Node {
	return pattern.Node{Kind: pattern.Rep, Min: least, Max: most, Subs: subs}
}

func lazy(x pattern.Node) pattern.Node {
	x.Lazy = true
	return x
}

// chars is a Cat of so many Chars.
func chars(n int) pattern.Node {
	return cat(slices.Repeat([]pattern.Node{char('a')}, n)...)
}

func one(ends ...int) Inst {
	return Inst{Kind: One, Spans: ranges(ends...)}
}

func notOne(ends ...int) Inst {
	return Inst{Kind: One, Not: true, Spans: ranges(ends...)}
}

func is(r rune) Inst {
	return one(int(r), int(r))
}

func two(x, y int) Inst {
	return Inst{Kind: Two, X: x, Y: y}
}

func goTo(x int) Inst {
	return Inst{Kind: Go, X: x}
}

func mark(n int) Inst {
	return Inst{Kind: Mark, N: n}
}

func atBegin() Inst {
	return Inst{Kind: AtBegin}
}

func atEnd() Inst {
	return Inst{Kind: AtEnd}
}

func done() Inst {
	return Inst{Kind: Done}
}

// same compares all fields; a nil list and an empty one are the same.
func same(x, y Inst) bool {
	return x.Kind == y.Kind && x.N == y.N && x.X == y.X && x.Y == y.Y && x.Not == y.Not && slices.Equal(x.Spans, y.Spans)
}

// holdNode holds that a node's instructions, from place 1 on, are these.
func holdNode(t *testing.T, n pattern.Node, want ...Inst) {
	t.Helper()
	p, e := Compile(n)
	all := slices.Concat([]Inst{mark(0)}, want, []Inst{mark(1), done()})
	if e != api.OK || !slices.EqualFunc(p, all, same) {
		t.Errorf("Compile(%v): %v, %d, want %v", n, p, e, all)
	}
}

// holdError holds that there are no instructions, but an error.
func holdError(t *testing.T, n pattern.Node, want api.Errno) {
	t.Helper()
	if p, e := Compile(n); p != nil || e != want {
		t.Errorf("Compile: %d instructions, %d, want error %d", len(p), e, want)
	}
}

// holdSize holds that there are so many instructions in all, or an error if
// these are too many.
func holdSize(t *testing.T, n pattern.Node, want int) {
	t.Helper()
	if want > 400 {
		holdError(t, n, api.ErrFull)
		return
	}
	if p, e := Compile(n); len(p) != want || e != api.OK {
		t.Errorf("Compile: %d instructions, %d, want %d", len(p), e, want)
	}
}

// P6.1

func TestKindsAreNumbered(t *testing.T) {
	for i, kind := range []int{One, Two, Go, Mark, AtBegin, AtEnd, Done} {
		if kind != i+1 {
			t.Errorf("kind %d is %d", i+1, kind)
		}
	}
	if Most != 400 {
		t.Errorf("Most is %d", Most)
	}
}

func TestChar(t *testing.T) {
	for _, n := range []int{0, 9, 10, 'a', 'Z', 0xD800, 1114111, 1114112, -1, math.MaxInt, math.MinInt} {
		holdNode(t, pattern.Node{Kind: pattern.Char, N: n}, one(n, n))
	}
	holdNode(t, pattern.Node{Kind: pattern.Char, N: 'a', Min: -7, Max: 77, Not: true, Lazy: true, Set: ranges(1, 2), Subs: []pattern.Node{wrong, wrong}}, is('a'))
}

func TestSet(t *testing.T) {
	holdNode(t, set(), one())
	holdNode(t, notSet(), notOne())
	holdNode(t, set(48, 57), one(48, 57))
	holdNode(t, notSet(10, 10), notOne(10, 10))
	holdNode(t, set(48, 57, 65, 90, 95, 95, 97, 122), one(48, 57, 65, 90, 95, 95, 97, 122))
	holdNode(t, notSet(5, 4, -9, 2000000, 5, 4), notOne(5, 4, -9, 2000000, 5, 4))
	holdNode(t, pattern.Node{Kind: pattern.Set, N: 'a', Min: -7, Max: 77, Lazy: true, Set: ranges(1, 2), Subs: []pattern.Node{wrong, wrong}}, one(1, 2))
}

func TestBeginAndEnd(t *testing.T) {
	holdNode(t, begin(), atBegin())
	holdNode(t, end(), atEnd())
	for kind, want := range map[int]Inst{pattern.Begin: atBegin(), pattern.End: atEnd()} {
		holdNode(t, pattern.Node{Kind: kind, N: 10, Min: -7, Max: 77, Not: true, Lazy: true, Set: ranges(1, 2), Subs: []pattern.Node{wrong, wrong}}, want)
	}
}

func TestGroup(t *testing.T) {
	holdNode(t, group(0, char('a')), is('a'))
	holdNode(t, group(0, cat()))
	for n := 1; n <= 9; n++ {
		holdNode(t, group(n, char('a')), mark(2*n), is('a'), mark(2*n+1))
		holdNode(t, group(n, cat()), mark(2*n), mark(2*n+1))
	}
	holdNode(t, group(2, group(1, group(2, begin()))), mark(4), mark(2), mark(4), atBegin(), mark(5), mark(3), mark(5))
	holdNode(t, group(0, group(9, group(0, end()))), mark(18), atEnd(), mark(19))
	holdNode(t, pattern.Node{Kind: pattern.Group, N: 3, Min: -7, Max: 77, Not: true, Lazy: true, Set: ranges(1, 2), Subs: []pattern.Node{set(7, 8)}}, mark(6), one(7, 8), mark(7))
}

func TestCat(t *testing.T) {
	holdNode(t, cat())
	holdNode(t, cat(cat(), cat(cat(), cat())))
	holdNode(t, cat(char('a')), is('a'))
	holdNode(t, cat(char('a'), set(1, 2), end()), is('a'), one(1, 2), atEnd())
	holdNode(t, cat(cat(char('a'), char('b')), cat(), cat(char('c'))), is('a'), is('b'), is('c'))
	holdNode(t, pattern.Node{Kind: pattern.Cat, N: 10, Min: -7, Max: 77, Not: true, Lazy: true, Set: ranges(1, 2), Subs: []pattern.Node{char('a')}}, is('a'))
}

func TestAlt(t *testing.T) {
	a, b, c := char('a'), char('b'), char('c')
	holdNode(t, alt(a), is('a'))
	holdNode(t, alt(cat()))
	holdNode(t, alt(a, b), two(2, 4), is('a'), goTo(5), is('b'))
	holdNode(t, alt(a, b, c), two(2, 4), is('a'), goTo(8), two(5, 7), is('b'), goTo(8), is('c'))
	holdNode(t, alt(cat(), cat()), two(2, 3), goTo(3))
	holdNode(t, alt(cat(), a), two(2, 3), goTo(4), is('a'))
	holdNode(t, alt(a, cat()), two(2, 4), is('a'), goTo(4))
	holdNode(t, alt(a, cat(b, c), cat(a, b, c), cat()), two(2, 4), is('a'), goTo(13), two(5, 8), is('b'), is('c'), goTo(13), two(9, 13), is('a'), is('b'), is('c'), goTo(13))
	holdNode(t, cat(alt(alt(a, b), c), b), two(2, 7), two(3, 5), is('a'), goTo(6), is('b'), goTo(8), is('c'), is('b'))
	holdNode(t, cat(a, alt(c, alt(a, b))), is('a'), two(3, 5), is('c'), goTo(9), two(6, 8), is('a'), goTo(9), is('b'))
	holdNode(t, pattern.Node{Kind: pattern.Alt, N: 10, Min: -7, Max: 77, Not: true, Lazy: true, Set: ranges(1, 2), Subs: []pattern.Node{a, b}}, two(2, 4), is('a'), goTo(5), is('b'))
}

func TestRepWithoutMax(t *testing.T) {
	a := char('a')
	holdNode(t, rep(0, -1, a), two(2, 4), is('a'), goTo(1))
	holdNode(t, rep(1, -1, a), is('a'), two(3, 5), is('a'), goTo(2))
	holdNode(t, rep(3, -1, a), is('a'), is('a'), is('a'), two(5, 7), is('a'), goTo(4))
	holdNode(t, lazy(rep(0, -1, a)), two(4, 2), is('a'), goTo(1))
	holdNode(t, lazy(rep(1, -1, a)), is('a'), two(5, 3), is('a'), goTo(2))
	holdNode(t, rep(0, -1, cat()), two(2, 3), goTo(1))
	holdNode(t, rep(9, -1, cat()), two(2, 3), goTo(1))
	holdNode(t, cat(a, rep(0, -1, cat(a, a)), a), is('a'), two(3, 6), is('a'), is('a'), goTo(2), is('a'))
}

func TestRepWithMax(t *testing.T) {
	a := char('a')
	holdNode(t, rep(0, 0, a))
	holdNode(t, lazy(rep(0, 0, a)))
	holdNode(t, rep(1, 1, a), is('a'))
	holdNode(t, lazy(rep(2, 2, a)), is('a'), is('a'))
	holdNode(t, rep(9, 9, a), slices.Repeat([]Inst{is('a')}, 9)...)
	holdNode(t, rep(0, 1, a), two(2, 3), is('a'))
	holdNode(t, lazy(rep(0, 1, a)), two(3, 2), is('a'))
	holdNode(t, rep(0, 3, a), two(2, 7), is('a'), two(4, 7), is('a'), two(6, 7), is('a'))
	holdNode(t, lazy(rep(0, 3, a)), two(7, 2), is('a'), two(7, 4), is('a'), two(7, 6), is('a'))
	holdNode(t, rep(2, 4, a), is('a'), is('a'), two(4, 7), is('a'), two(6, 7), is('a'))
	holdNode(t, lazy(rep(8, 9, a)), append(slices.Repeat([]Inst{is('a')}, 8), two(11, 10), is('a'))...)
	holdNode(t, rep(0, 2, cat()), two(2, 3), two(3, 3))
	holdNode(t, rep(9, 9, cat()))
	holdNode(t, pattern.Node{Kind: pattern.Rep, N: 10, Min: 0, Max: 1, Not: true, Set: ranges(1, 2), Subs: []pattern.Node{a}}, two(2, 3), is('a'))
}

func TestRepsInOneAnother(t *testing.T) {
	a := char('a')
	holdNode(t, rep(0, -1, rep(0, -1, a)), two(2, 6), two(3, 5), is('a'), goTo(2), goTo(1))
	holdNode(t, rep(0, -1, lazy(rep(0, -1, a))), two(2, 6), two(5, 3), is('a'), goTo(2), goTo(1))
	holdNode(t, lazy(rep(0, -1, rep(0, -1, a))), two(6, 2), two(3, 5), is('a'), goTo(2), goTo(1))
	holdNode(t, rep(2, 3, rep(0, 1, a)), two(2, 3), is('a'), two(4, 5), is('a'), two(6, 8), two(7, 8), is('a'))
	holdNode(t, rep(0, 2, lazy(rep(1, 2, a))), two(2, 9), is('a'), two(5, 4), is('a'), two(6, 9), is('a'), two(9, 8), is('a'))
	holdNode(t, rep(2, -1, rep(0, 0, a)), two(2, 3), goTo(1))
	holdNode(t, rep(2, 2, alt(a, cat())), two(2, 4), is('a'), goTo(4), two(5, 7), is('a'), goTo(7))
	holdNode(t, rep(2, 2, group(1, rep(0, -1, a))), mark(2), two(3, 5), is('a'), goTo(2), mark(3), mark(2), two(8, 10), is('a'), goTo(7), mark(3))
}

func TestParsedPatterns(t *testing.T) {
	for _, s := range []string{"", "a", "(a*)(b|c)", "^(?:a|b|)*?$", "[^a-c]{2,}.\\W", "((a+)?b{0,3}?|(c))$|^"} {
		n, _, _, e := pattern.Parse([]rune(s))
		if e != api.OK {
			t.Fatalf("Parse(%q): %d", s, e)
		}
		want, _ := instructions(n)
		holdNode(t, n, want[1:len(want)-2]...)
	}
}

func TestMostInstructions(t *testing.T) {
	for n := 390; n <= 410; n++ {
		holdSize(t, chars(n), n+3)
		holdSize(t, group(1, chars(n)), n+5)
		holdSize(t, group(0, chars(n)), n+3)
		holdSize(t, cat(chars(n), begin(), end(), set()), n+6)
		holdSize(t, alt(chars(n), cat()), n+5)
		holdSize(t, alt(cat(), chars(n)), n+5)
		holdSize(t, alt(chars(n), char('a'), cat()), n+8)
		holdSize(t, cat(chars(n), alt(cat(), cat(), cat(), cat())), n+9)
		holdSize(t, cat(chars(n), rep(0, -1, cat())), n+5)
		holdSize(t, cat(chars(n), rep(2, -1, char('a'))), n+8)
		holdSize(t, cat(chars(n), rep(3, 5, char('a'))), n+10)
		holdSize(t, cat(chars(n), rep(0, 3, cat())), n+6)
		holdSize(t, cat(chars(n), rep(0, 0, chars(500))), n+3)
	}
	holdSize(t, chars(100000), 100003)
	holdSize(t, alt(slices.Repeat([]pattern.Node{cat()}, 199)...), 399)
	holdSize(t, alt(slices.Repeat([]pattern.Node{cat()}, 200)...), 401)
	holdSize(t, alt(slices.Repeat([]pattern.Node{cat()}, 100000)...), 200001)
	holdSize(t, rep(0, 0, chars(100000)), 3)
	holdSize(t, rep(0, -1, chars(395)), 400)
	holdSize(t, rep(0, -1, chars(396)), 401)
	holdSize(t, rep(0, 1, chars(396)), 400)
	holdSize(t, rep(0, 1, chars(397)), 401)
}

// With three repeats in one another there are all numbers that are near Most.
func TestMostInstructionsOfRepeatsInRepeats(t *testing.T) {
	var all []pattern.Node
	for least := range 10 {
		all = append(all, rep(least, -1))
		for most := least; most <= 9; most++ {
			all = append(all, rep(least, most))
		}
	}
	seen := map[int]bool{}
	for _, x := range all {
		for _, y := range all {
			for i := range 5 {
				inner := chars(i)
				if i == 4 {
					inner = rep(1, 3, char('a'))
				}
				y.Subs = []pattern.Node{inner}
				x.Subs = []pattern.Node{y}
				seen[size(x)+3] = true
				holdSize(t, x, size(x)+3)
				z := rep(3, 3, x)
				seen[size(z)+3] = true
				holdSize(t, z, size(z)+3)
			}
		}
	}
	if !seen[399] || !seen[400] || !seen[402] {
		t.Error("no numbers near Most")
	}
}

func TestRepeatsOfNothingInOneAnother(t *testing.T) {
	for _, x := range []pattern.Node{rep(9, 9), rep(2, 2), rep(1, 1), rep(0, 0)} {
		n := cat()
		for range 20000 {
			x.Subs = []pattern.Node{n}
			n = x
		}
		holdNode(t, n)
		holdNode(t, cat(char('a'), n, n, char('b')), is('a'), is('b'))
		holdSize(t, rep(0, 9, n), 12)
	}
	n := cat()
	for range 30000 {
		n = rep(9, 9, group(0, cat(cat(), n)))
	}
	holdNode(t, n)
}

func TestRepeatsInOneAnotherWithoutEnd(t *testing.T) {
	for _, x := range []pattern.Node{rep(9, 9), rep(0, 9), rep(9, -1), rep(5, 9), lazy(rep(0, 2))} {
		n := char('a')
		for range 30000 {
			x.Subs = []pattern.Node{n}
			n = x
		}
		holdError(t, n, api.ErrFull)
		holdNode(t, rep(0, 0, n))
	}
	n := cat()
	for range 30000 {
		n = alt(n, n)
		n.Subs[1] = cat()
	}
	holdError(t, n, api.ErrFull)
}

func TestManyNodesInOneAnother(t *testing.T) {
	n := char('a')
	for range 20000 {
		n = group(0, cat(alt(rep(1, 1, n))))
	}
	holdNode(t, n, is('a'))
}

// wrongNodes has a node for each error.
func wrongNodes() []pattern.Node {
	a := char('a')
	l := []pattern.Node{
		group(1), group(0), group(9, a, a), group(0, a, a), group(-1, a), group(10, a), group(math.MaxInt, a), group(math.MinInt, a),
		rep(0, -1), rep(1, 1), rep(0, 0, a, a), rep(0, -1, a, a),
		rep(-1, -1, a), rep(-1, 5, a), rep(10, -1, a), rep(10, 10, a), rep(0, 10, a), rep(0, -2, a), rep(1, 0, a), rep(9, 8, a), rep(9, 0, a),
		rep(math.MinInt, math.MaxInt, a), rep(math.MaxInt, -1, a), rep(0, math.MaxInt, a), rep(0, math.MinInt, a),
		alt(),
	}
	for _, kind := range []int{0, -1, 9, 10, math.MaxInt, math.MinInt} {
		l = append(l, pattern.Node{Kind: kind}, pattern.Node{Kind: kind, N: 1, Subs: []pattern.Node{a}})
	}
	return l
}

func TestEachWrongNode(t *testing.T) {
	a, b := char('a'), char('b')
	for _, w := range wrongNodes() {
		for _, n := range []pattern.Node{
			w, lazy(w), group(0, w), group(1, w), cat(w), cat(a, w), cat(w, a), cat(a, w, b), alt(w), alt(a, w), alt(w, a), alt(a, w, b),
			rep(0, -1, w), rep(0, 0, w), rep(1, 1, w), rep(2, 3, w), cat(a, cat(b, group(3, alt(a, rep(0, 1, w))))),
			cat(chars(500), w), cat(w, chars(500)), alt(chars(398), w), alt(w, chars(398)), group(1, cat(chars(500), w)), rep(9, 9, cat(chars(100), w)), rep(9, 9, rep(9, 9, rep(9, 9, w))),
			cat(w, group(10, wrong), wrong), rep(10, 0, w), group(-1, w), group(1, w, w), alt(w, w),
		} {
			holdError(t, n, api.ErrArg)
		}
		for _, kind := range []int{pattern.Char, pattern.Set, pattern.Begin, pattern.End} {
			for _, subs := range [][]pattern.Node{{w}, {w, w}, {a, w}} {
				if p, e := Compile(pattern.Node{Kind: kind, Subs: subs}); len(p) != 4 || e != api.OK {
					t.Errorf("Compile: %v, %d", p, e)
				}
			}
		}
	}
}

func TestEachMinWithEachMax(t *testing.T) {
	for least := -12; least <= 20; least++ {
		for most := -12; most <= 20; most++ {
			want := api.ErrArg
			if least >= 0 && least <= 9 && (most == -1 || most >= least && most <= 9) {
				want = api.OK
			}
			if _, e := Compile(rep(least, most, char('a'))); e != want {
				t.Errorf("Compile of {%d,%d}: %d", least, most, e)
			}
		}
	}
	for n := -12; n <= 20; n++ {
		want := api.ErrArg
		if n >= 0 && n <= 9 {
			want = api.OK
		}
		if _, e := Compile(group(n, char('a'))); e != want {
			t.Errorf("Compile of group %d: %d", n, e)
		}
		if _, e := Compile(pattern.Node{Kind: n, Max: 1, Subs: []pattern.Node{char('a')}}); (e == api.OK) != (n >= 1 && n <= 8) {
			t.Errorf("Compile of kind %d: %d", n, e)
		}
	}
}

// randomNode draws a node that is valid.
func randomNode(l *lot, deep int) pattern.Node {
	if deep == 0 {
		return among(l, char('a'), char('b'), set(97, 98), notSet(98, 98, 5, 4), begin(), end(), cat())
	}
	switch l.below(6) {
	case 0:
		return group(l.below(10), randomNode(l, deep-1))
	case 1:
		n := alt()
		for range 1 + l.below(3) {
			n.Subs = append(n.Subs, randomNode(l, deep-1))
		}
		return n
	case 2, 3:
		least := among(l, 0, 0, 1, 2, 9)
		n := rep(least, among(l, -1, least, least+l.below(10-least)), randomNode(l, deep-1))
		n.Lazy = l.below(2) == 0
		return n
	default:
		n := cat()
		for range l.below(4) {
			n.Subs = append(n.Subs, randomNode(l, l.below(deep)))
		}
		return n
	}
}

func TestRandomNodes(t *testing.T) {
	l := &lot{1}
	full := 0
	for range 30000 {
		n := randomNode(l, 1+l.below(5))
		p, e := Compile(n)
		want, f := instructions(n)
		if e != f || !slices.EqualFunc(p, want, same) {
			t.Fatalf("Compile(%v): %v, %d, want %v, %d", n, p, e, want, f)
		}
		if e == api.ErrFull {
			full++
		}
	}
	if full < 100 {
		t.Errorf("only %d nodes have too many instructions", full)
	}
}

// R3

func sameNode(x, y pattern.Node) bool {
	return x.Kind == y.Kind && x.N == y.N && x.Min == y.Min && x.Max == y.Max && x.Not == y.Not && x.Lazy == y.Lazy &&
		slices.Equal(x.Set, y.Set) && slices.EqualFunc(x.Subs, y.Subs, sameNode)
}

func TestCompileSharesNothing(t *testing.T) {
	fresh := func() pattern.Node {
		return cat(rep(2, 3, set(97, 98, 99, 100)), group(1, alt(set(97, 98, 99, 100), char('a'), char('a'))))
	}
	n := fresh()
	p, _ := Compile(n)
	want, _ := instructions(fresh())
	if !sameNode(n, fresh()) {
		t.Errorf("the node has become %v", n)
	}
	n.Subs[0].Subs[0].Set[0].From = 7
	if !slices.EqualFunc(p, want, same) {
		t.Errorf("the instructions have become %v", p)
	}
	n = fresh()
	p, _ = Compile(n)
	for i := range p {
		for j := range p[i].Spans {
			p[i].Spans[j] = api.Span{From: -i, To: -j}
		}
		p[i].Spans = append(p[i].Spans, api.Span{From: i, To: i})
	}
	for i, x := range p {
		for j, s := range x.Spans {
			if j < len(x.Spans)-1 && s != (api.Span{From: -i, To: -j}) || j == len(x.Spans)-1 && s.From != i {
				t.Errorf("the spans of instruction %d are shared", i)
			}
		}
	}
	if !sameNode(n, fresh()) {
		t.Errorf("the node has become %v", n)
	}
}

func TestCompileOfNilAndEmptyLists(t *testing.T) {
	holdNode(t, pattern.Node{Kind: pattern.Cat, Subs: []pattern.Node{}})
	holdNode(t, pattern.Node{Kind: pattern.Set, Set: []api.Span{}}, one())
	holdError(t, pattern.Node{Kind: pattern.Alt, Subs: []pattern.Node{}}, api.ErrArg)
	holdError(t, pattern.Node{Kind: pattern.Group, Subs: []pattern.Node{}}, api.ErrArg)
}
