package pike

import (
	"math"
	"regexp"
	"slices"
	"strings"
	"testing"

	"stylus/api"
	"stylus/pattern"
)

// found are ten spans, of which the first ones have these ends.
func found(ends ...int) []api.Span {
	l := ranges(ends...)
	for len(l) < 10 {
		l = append(l, api.Span{From: -1, To: -1})
	}
	return l
}

// holdRun holds that these spans are found, or, if there are none, nothing.
func holdRun(t *testing.T, p []Inst, text []rune, from int, fold bool, want []api.Span) {
	t.Helper()
	l, is := Run(p, text, from, fold)
	if !slices.Equal(l, want) || is != (len(want) > 0) {
		t.Errorf("Run(%v, %q, %d, %v): %v, %v, want %v", p, string(text), from, fold, l, is, want)
	}
}

// holdSame holds that Run returns what the words of the chapter say.
func holdSame(t *testing.T, p []Inst, text []rune, from int, fold bool) bool {
	t.Helper()
	l, is := Run(p, text, from, fold)
	want, wanted := firstStart(p, text, from, fold)
	if is != wanted || !slices.Equal(l, want) {
		t.Fatalf("Run(%v, %q, %d, %v): %v, %v, want %v, %v", p, string(text), from, fold, l, is, want, wanted)
	}
	return is
}

// compiled has the instructions of a pattern that has some.
func compiled(t *testing.T, s string) []Inst {
	t.Helper()
	n, _, _, e := pattern.Parse([]rune(s))
	p, f := Compile(n)
	if e != api.OK || f != api.OK {
		t.Fatalf("no instructions of %q: %d, %d", s, e, f)
	}
	return p
}

// sample says what of a text a pattern finds.
type sample struct {
	s, text string
	from    int
	want    []api.Span
}

func holdSamples(t *testing.T, fold bool, l ...sample) {
	t.Helper()
	for _, c := range l {
		holdRun(t, compiled(t, c.s), []rune(c.text), c.from, fold, c.want)
	}
}

// P6.2

func TestExamples(t *testing.T) {
	holdSamples(t, false,
		sample{"(a*)(b|c)", "xaab", 0, found(1, 4, 1, 3, 3, 4)},
		sample{"a", "bab", 0, found(1, 2)},
		sample{"a", "bbb", 0, nil},
		sample{"abc", "ababc", 0, found(2, 5)},
		sample{"[0-9]+", "ab123c45", 0, found(2, 5)},
		sample{"[0-9]+", "ab123c45", 3, found(3, 5)},
		sample{"[0-9]+", "ab123c45", 5, found(6, 8)},
		sample{"(\\w+) (\\w+)", "one two", 0, found(0, 7, 0, 3, 4, 7)},
		sample{".", "\n\nx", 0, found(2, 3)},
		sample{"\u20AC", "a\u20ACb", 0, found(1, 2)},
	)
}

func TestFromThatIsNoPlace(t *testing.T) {
	for _, s := range []string{"", "a", "^", "$", "a*", "()"} {
		for _, text := range []string{"", "a", "aaa"} {
			n := len(text)
			for _, from := range []int{-1, -2, n + 1, n + 2, math.MinInt, math.MaxInt} {
				holdSamples(t, false, sample{s, text, from, nil})
			}
		}
	}
	holdRun(t, nil, nil, -1, false, nil)
	holdRun(t, nil, nil, 1, true, nil)
}

func TestEachPlaceOfATextAsFrom(t *testing.T) {
	for from := range 4 {
		holdSamples(t, false, sample{"", "abc", from, found(from, from)}, sample{"$", "abc", from, found(3, 3)})
	}
	holdSamples(t, false,
		sample{"[ac]", "abc", 0, found(0, 1)},
		sample{"[ac]", "abc", 1, found(2, 3)},
		sample{"[ac]", "abc", 2, found(2, 3)},
		sample{"[ac]", "abc", 3, nil},
	)
}

func TestEmptyText(t *testing.T) {
	holdSamples(t, false,
		sample{"", "", 0, found(0, 0)},
		sample{"a*", "", 0, found(0, 0)},
		sample{"^$", "", 0, found(0, 0)},
		sample{"()", "", 0, found(0, 0, 0, 0)},
		sample{"a", "", 0, nil},
		sample{"[^a]", "", 0, nil},
		sample{"", "", 1, nil},
		sample{"", "", -1, nil},
	)
	holdRun(t, compiled(t, "^$"), nil, 0, false, found(0, 0))
	holdRun(t, compiled(t, "^$"), []rune{}, 0, false, found(0, 0))
}

func TestBeginAndEndOfTheText(t *testing.T) {
	holdSamples(t, false,
		sample{"^", "aa", 0, found(0, 0)},
		sample{"^", "aa", 1, nil},
		sample{"^", "aa", 2, nil},
		sample{"^a", "aba", 0, found(0, 1)},
		sample{"^a", "aba", 1, nil},
		sample{"^b", "aba", 0, nil},
		sample{"a$", "aba", 0, found(2, 3)},
		sample{"a$", "aba", 2, found(2, 3)},
		sample{"a$", "abab", 0, nil},
		sample{"$", "ab", 0, found(2, 2)},
		sample{"$", "ab", 2, found(2, 2)},
		sample{"^a$", "a", 0, found(0, 1)},
		sample{"^a$", "aa", 0, nil},
		sample{"^$", "a", 0, nil},
		sample{"a^", "aa", 0, nil},
		sample{"a*^b", "ab", 0, nil},
		sample{"a*^b", "b", 0, found(0, 1)},
		sample{"$a", "aa", 0, nil},
		sample{"a$b*", "aab", 0, nil},
		sample{"a$b*", "aaba", 0, found(3, 4)},
		sample{"(?:^|b)a", "abba", 0, found(0, 1)},
		sample{"(?:^|b)a", "abba", 1, found(2, 4)},
		sample{"a(?:$|b)", "acab", 0, found(2, 4)},
		sample{"a(?:$|b)", "aca", 0, found(2, 3)},
		sample{"^a", "\na", 0, nil},
		sample{"a$", "a\n", 0, nil},
	)
}

func TestWhichWayIsTriedFirst(t *testing.T) {
	holdSamples(t, false,
		sample{"a|ab", "ab", 0, found(0, 1)},
		sample{"ab|a", "ab", 0, found(0, 2)},
		sample{"|a", "a", 0, found(0, 0)},
		sample{"a|", "a", 0, found(0, 1)},
		sample{"(?:a|ab)c", "abc", 0, found(0, 3)},
		sample{"(?:a|ab)(?:c|bcd)", "abcd", 0, found(0, 4)},
		sample{"(a|ab)(c|bcd)(d*)", "abcd", 0, found(0, 4, 0, 1, 1, 4, 4, 4)},
		sample{"(ab|a)(bcd|c)(d*)", "abcd", 0, found(0, 4, 0, 2, 2, 3, 3, 4)},
		sample{"a*", "aab", 0, found(0, 2)},
		sample{"a*?", "aab", 0, found(0, 0)},
		sample{"a*?b", "aab", 0, found(0, 3)},
		sample{"a+?", "aa", 0, found(0, 1)},
		sample{"a??", "a", 0, found(0, 0)},
		sample{"a?", "a", 0, found(0, 1)},
		sample{"a{2,3}", "aaaa", 0, found(0, 3)},
		sample{"a{2,3}?", "aaaa", 0, found(0, 2)},
		sample{"a{2}", "aaaa", 1, found(1, 3)},
		sample{"a{5}", "aaaa", 0, nil},
		sample{"a{0}", "aaaa", 2, found(2, 2)},
		sample{"(a*)(a*)", "aa", 0, found(0, 2, 0, 2, 2, 2)},
		sample{"(a*?)(a*)", "aa", 0, found(0, 2, 0, 0, 0, 2)},
		sample{"(a*?)(a*?)$", "aa", 0, found(0, 2, 0, 0, 0, 2)},
		sample{"(a|b)*?b", "aabb", 0, found(0, 3, 1, 2)},
		sample{"(a|b)*b", "aabb", 0, found(0, 4, 2, 3)},
	)
}

// A way that ends later, but is tried first, wins over one that has ended.
func TestWayThatEndsLater(t *testing.T) {
	holdSamples(t, false,
		sample{"aaaa|a", "aaaa", 0, found(0, 4)},
		sample{"aaaa|a", "aaab", 0, found(0, 1)},
		sample{"aaa|a|aaaa", "aaaa", 0, found(0, 3)},
		sample{"abcd|bc", "abcd", 0, found(0, 4)},
		sample{"abcd|bc", "abce", 0, found(1, 3)},
		sample{"abcd|b|bc", "abce", 0, found(1, 2)},
		sample{"a(?:bcd)?|b", "abcd", 0, found(0, 4)},
		sample{"a(?:bcd)?|b", "abce", 0, found(0, 1)},
		sample{"(?:abc|b)|c", "abd", 0, found(1, 2)},
	)
}

func TestFirstStart(t *testing.T) {
	holdSamples(t, false,
		sample{"b|aac", "aab", 0, found(2, 3)},
		sample{"b|aac", "aac", 0, found(0, 3)},
		sample{"a*b", "aaacaab", 0, found(4, 7)},
		sample{"a+b|c", "aaacaab", 0, found(3, 4)},
		sample{"a+", "baab", 0, found(1, 3)},
		sample{"a*", "baab", 0, found(0, 0)},
		sample{"a*$", "baab", 0, found(4, 4)},
		sample{"(a)(b)?a", "aba aa", 0, found(0, 3, 0, 1, 1, 2)},
		sample{"aab", "aaab", 0, found(1, 4)},
		sample{"abab", "abaabab", 0, found(3, 7)},
	)
}

// What an instruction leads to a second time at a place is not tried again.
func TestTriedOnceAtEachPlace(t *testing.T) {
	holdSamples(t, false,
		sample{"(a*)*", "b", 0, found(0, 0, -1, -1)},
		sample{"(a*)*", "ab", 0, found(0, 1, 0, 1)},
		sample{"(a*)+", "b", 0, found(0, 0, 0, 0)},
		sample{"(a*)+", "ab", 0, found(0, 1, 0, 1)},
		sample{"(?:)*", "b", 0, found(0, 0)},
		sample{"(?:)*b", "ab", 0, found(1, 2)},
		sample{"()*", "b", 0, found(0, 0, -1, -1)},
		sample{"()+", "b", 0, found(0, 0, 0, 0)},
		sample{"()*?b", "ab", 0, found(1, 2)},
		sample{"(a|)*", "aab", 0, found(0, 2, 1, 2)},
		sample{"(|a)*", "aab", 0, found(0, 2, 1, 2)},
		sample{"(|a)+", "aab", 0, found(0, 2, 1, 2)},
		sample{"(|a)+b", "aab", 0, found(0, 3, 1, 2)},
		sample{"(a*?)*?b", "aab", 0, found(0, 3, 0, 2)},
		sample{"(?:a|())(?:b|())*c", "abbc", 0, found(0, 4)},
		sample{"(a?){3}", "a", 0, found(0, 1, 1, 1)},
		sample{"(?:(a)|b|)*", "ab", 0, found(0, 2, 0, 1)},
		sample{"(^)*a", "a", 0, found(0, 1, -1, -1)},
		sample{"(?:$)*", "a", 0, found(0, 0)},
	)
}

// Each instruction's second try at a place fails, whatever marks it comes with.
func TestTriedOnceByHand(t *testing.T) {
	a := []rune("ab")
	holdRun(t, []Inst{two(1, 3), mark(0), goTo(4), mark(2), atEnd(), done()}, nil, 0, false, found(-1, -1))
	holdRun(t, []Inst{mark(0), two(2, 4), mark(2), two(1, 4), mark(1), done()}, a, 0, false, found(0, 0))
	holdRun(t, []Inst{two(0, 1), mark(0), mark(1), done()}, a, 1, false, found(1, 1))
	holdRun(t, []Inst{two(1, 1), mark(0), mark(1), done()}, a, 1, false, found(1, 1))
	holdRun(t, []Inst{two(1, 3), atEnd(), goTo(4), mark(0), is('b'), mark(1), done()}, a, 0, false, found(1, 2))
	holdRun(t, []Inst{two(1, 2), mark(2), is('a'), mark(3), done()}, a, 0, false, found(-1, -1, 0, 1))
	holdRun(t, []Inst{two(2, 1), mark(2), is('a'), mark(3), done()}, a, 0, false, found(-1, -1))
}

func TestMarks(t *testing.T) {
	a := []rune("abc")
	var p []Inst
	for i := range 20 {
		p = append(p, mark(i))
	}
	holdRun(t, append(p, done()), a, 2, false, found(slices.Repeat([]int{2}, 20)...))
	for i := range 10 {
		want := slices.Repeat([]int{-1}, 20)
		holdRun(t, []Inst{mark(2 * i), done()}, a, 1, false, found(want...))
		holdRun(t, []Inst{mark(2*i + 1), done()}, a, 1, false, found(want...))
		want[2*i], want[2*i+1] = 1, 3
		holdRun(t, []Inst{mark(2 * i), is('b'), is('c'), mark(2*i + 1), done()}, a, 0, false, found(want...))
		want[2*i], want[2*i+1] = 3, 1
		holdRun(t, []Inst{mark(2*i + 1), is('b'), is('c'), mark(2 * i), done()}, a, 0, false, found(want...))
	}
	holdRun(t, []Inst{mark(0), is('a'), mark(0), mark(1), is('b'), mark(1), done()}, a, 0, false, found(1, 2))
	holdRun(t, []Inst{mark(0), mark(1), is('a'), mark(1), done()}, a, 0, false, found(0, 1))
	holdRun(t, []Inst{mark(1), is('a'), mark(0), done()}, a, 0, false, found(1, 0))
	for _, n := range []int{-1, -2, 20, 21, math.MaxInt, math.MinInt} {
		holdRun(t, []Inst{mark(n), done()}, a, 0, false, nil)
		holdRun(t, []Inst{two(1, 2), mark(n), mark(0), mark(1), done()}, a, 0, false, found(0, 0))
	}
}

func TestMarksOfOneWayOnly(t *testing.T) {
	holdSamples(t, false,
		sample{"(a)|b", "a", 0, found(0, 1, 0, 1)},
		sample{"(a)|b", "b", 0, found(0, 1)},
		sample{"(a)|(b)", "b", 0, found(0, 1, -1, -1, 0, 1)},
		sample{"(a)b|a(c)", "ac", 0, found(0, 2, -1, -1, 1, 2)},
		sample{"(a(b)?)+", "aba", 0, found(0, 3, 2, 3, 1, 2)},
		sample{"(?:(a)|(b))*", "ab", 0, found(0, 2, 0, 1, 1, 2)},
		sample{"(?:(a)|(b))*", "aba", 0, found(0, 3, 2, 3, 1, 2)},
		sample{"(a){3}", "aaa", 0, found(0, 3, 2, 3)},
		sample{"((a)(b)?)c|(abd)", "abd", 0, found(0, 3, -1, -1, -1, -1, -1, -1, 0, 3)},
		sample{"(1)(2)(3)(4)(5)(6)(7)(8)(9)", "0123456789", 0, found(1, 10, 1, 2, 2, 3, 3, 4, 4, 5, 5, 6, 6, 7, 7, 8, 8, 9, 9, 10)},
	)
	a := []rune("ab")
	holdRun(t, []Inst{two(1, 4), mark(0), mark(1), is('b'), done()}, a, 0, false, found(-1, -1))
	holdRun(t, []Inst{two(1, 4), mark(2), mark(3), atEnd(), mark(3), done()}, a, 0, false, found(-1, -1))
	holdRun(t, []Inst{two(1, 4), mark(2), is('a'), is('a'), is('a'), mark(0), mark(1), done()}, a, 0, false, found(1, 1))
}

func TestRunesThatMatch(t *testing.T) {
	for _, c := range []struct {
		x    Inst
		r    rune
		want bool
	}{
		{one(), 'a', false}, {notOne(), 'a', true}, {notOne(), 0, true}, {notOne(), -1, true},
		{one(5, 7), 4, false}, {one(5, 7), 5, true}, {one(5, 7), 6, true}, {one(5, 7), 7, true}, {one(5, 7), 8, false},
		{notOne(5, 7), 4, true}, {notOne(5, 7), 5, false}, {notOne(5, 7), 6, false}, {notOne(5, 7), 7, false}, {notOne(5, 7), 8, true},
		{one(5, 5), 5, true}, {one(5, 4), 5, false}, {one(5, 4), 4, false}, {one(7, 2), 5, false}, {notOne(5, 4), 5, true}, {notOne(7, 2), 5, true},
		{one(1, 2, 8, 9), 2, true}, {one(1, 2, 8, 9), 3, false}, {one(1, 2, 8, 9), 7, false}, {one(1, 2, 8, 9), 8, true}, {one(8, 9, 1, 2), 1, true}, {one(1, 9, 3, 4), 5, true},
		{notOne(1, 2, 8, 9), 2, false}, {notOne(1, 2, 8, 9), 3, true}, {notOne(1, 2, 8, 9), 8, false},
		{one(9, 1, 2, 3), 2, true}, {notOne(9, 1, 2, 3), 2, false}, {notOne(9, 1, 2, 3), 5, true},
		{one(-5, -3), -4, true}, {one(-5, -3), -2, false}, {one(-5, 0), -1, true}, {notOne(-5, -3), -4, false},
		{one(1114112, 1114112), 1114112, true}, {one(0, 1114111), 1114112, false}, {one(0, 1114111), 1114111, true}, {one(0, 1114111), -1, false}, {notOne(0, 1114111), -1, true},
		{one(math.MinInt, math.MaxInt), math.MinInt32, true}, {one(math.MinInt, math.MaxInt), math.MaxInt32, true}, {notOne(math.MinInt, math.MaxInt), 0, false},
		{one(math.MinInt32, math.MinInt32), math.MinInt32, true}, {one(math.MaxInt32, math.MaxInt32), math.MaxInt32, true}, {one(math.MaxInt, math.MinInt), 0, false},
		{one(1<<32+'a', 1<<32+'a'), 'a', false}, {one('a'-1<<32, 'a'), 'a', true},
		{one(0xD800, 0xDFFF), 0xDBFF, true}, {one('a', 'a'), 'A', false}, {one('A', 'A'), 'a', false},
	} {
		for _, fold := range []bool{false, true} {
			if fold && (c.r == 'a' || c.r == 'A') {
				continue
			}
			var want []api.Span
			if c.want {
				want = found(-1, -1)
			}
			holdRun(t, []Inst{c.x, done()}, []rune{c.r}, 0, fold, want)
		}
	}
}

func TestFold(t *testing.T) {
	holdSamples(t, false, sample{"a", "A", 0, nil}, sample{"A", "a", 0, nil}, sample{"[^a]", "A", 0, found(0, 1)}, sample{"[b-y]", "B", 0, nil})
	holdSamples(t, true,
		sample{"a", "A", 0, found(0, 1)},
		sample{"A", "a", 0, found(0, 1)},
		sample{"z", "Z", 0, found(0, 1)},
		sample{"Z", "z", 0, found(0, 1)},
		sample{"a", "a", 0, found(0, 1)},
		sample{"A", "A", 0, found(0, 1)},
		sample{"a", "b", 0, nil},
		sample{"[b-y]", "aAZzB", 0, found(4, 5)},
		sample{"[^B]", "bBa", 0, found(2, 3)},
		sample{"[^b]", "bBA", 0, found(2, 3)},
		sample{"[^bC]+", "bBcCaA", 0, found(4, 6)},
		sample{"(hello)", "say HeLLo", 0, found(4, 9, 4, 9)},
		sample{"\\W", "aZ_9-", 0, found(4, 5)},
		sample{"`", "@`", 0, found(1, 2)},
		sample{"@", "`@", 0, found(1, 2)},
		sample{"[[]", "{", 0, nil},
		sample{"\\{", "[", 0, nil},
		sample{"\\[", "{[", 0, found(1, 2)},
		sample{"é", "É", 0, nil},
		sample{"É", "é", 0, nil},
		sample{"k", "\u212A", 0, nil},
		sample{"\u212A", "k", 0, nil},
		sample{"s", "\u017F", 0, nil},
		sample{"1", "Q", 0, nil},
	)
}

// Each rune up to 300 is held against each span of one rune and against some
// longer ones.
func TestFoldOfEachRune(t *testing.T) {
	var xs []Inst
	for n := -40; n < 300; n++ {
		xs = append(xs, one(n, n), notOne(n, n))
	}
	for _, s := range [][]int{{60, 66}, {64, 65}, {90, 91}, {91, 96}, {96, 97}, {122, 123}, {85, 100}, {97, 122}, {65, 90}, {90, 65}, {98, 97, 70, 75, 115, 116}} {
		xs = append(xs, one(s...), notOne(s...))
	}
	for _, x := range xs {
		for r := rune(-40); r < 300; r++ {
			for _, fold := range []bool{false, true} {
				_, is := Run([]Inst{x, done()}, []rune{r}, 0, fold)
				if is != hits(x, int(r), fold) {
					t.Fatalf("rune %d, %v, fold %v: %v", r, x, fold, is)
				}
			}
		}
	}
}

func TestWrongInstructions(t *testing.T) {
	a := []rune("ab")
	for _, p := range [][]Inst{
		nil, {}, {{}}, {{Kind: -1}}, {{Kind: 8}}, {{Kind: 0}, done()}, {{Kind: 8}, done()}, {{Kind: math.MaxInt}, done()}, {{Kind: math.MinInt}, done()},
		{is('a')}, {is('a'), is('b')}, {mark(0)}, {mark(0), mark(1)}, {atBegin()}, {atEnd()}, {two(1, 1)}, {two(1, 1), is('a')},
		{goTo(-1), done()}, {goTo(2), done()}, {goTo(math.MaxInt), done()}, {goTo(math.MinInt), done()}, {goTo(0), done()}, {goTo(1), goTo(0), done()},
		{goTo(2), done(), goTo(3), goTo(2)},
		{two(-1, 2), done()}, {two(2, -1), done()}, {two(math.MinInt, math.MaxInt), done()}, {two(0, 0), done()}, {two(1, 2), two(2, 0), two(0, 1)},
		{is('a'), two(0, 1)}, {is('a'), goTo(0)}, {is('a'), is('b'), is('c'), done()},
	} {
		for from := -1; from <= 3; from++ {
			holdRun(t, p, a, from, false, nil)
		}
	}
	holdRun(t, []Inst{two(-1, 1), done()}, a, 1, false, found(-1, -1))
	holdRun(t, []Inst{two(2, 1), done()}, a, 1, false, found(-1, -1))
	holdRun(t, []Inst{two(1, -1), done()}, a, 1, false, found(-1, -1))
	holdRun(t, []Inst{two(math.MaxInt, 2), done(), mark(0), goTo(5), {}, mark(1), goTo(1)}, a, 1, false, found(1, 1))
	holdRun(t, []Inst{two(1, 3), goTo(2), goTo(1), mark(0), mark(1), done()}, a, 1, false, found(1, 1))
	holdRun(t, []Inst{two(1, 2), {Kind: 9}, done()}, a, 0, false, found(-1, -1))
	holdRun(t, []Inst{goTo(2), done(), mark(0), is('b'), mark(1), goTo(1)}, a, 0, false, found(1, 2))
}

// Fields that an instruction does not use do not count.
func TestFieldsThatAreNotUsed(t *testing.T) {
	a := []rune("ab")
	p := []Inst{
		{Kind: AtBegin, N: 3, X: -1, Y: -1, Not: true, Spans: ranges(1, 2)},
		{Kind: Mark, N: 0, X: -1, Y: -1, Not: true, Spans: ranges(1, 2)},
		{Kind: Go, N: 7, X: 3, Y: -1, Not: true, Spans: ranges(1, 2)},
		{Kind: Two, N: 7, X: -1, Y: 4, Not: true, Spans: ranges(1, 2)},
		{Kind: One, N: 7, X: -1, Y: -1, Spans: ranges('a', 'a')},
		{Kind: One, N: 7, X: -1, Y: -1, Spans: ranges('b', 'b')},
		{Kind: AtEnd, N: 3, X: -1, Y: -1, Not: true, Spans: ranges(1, 2)},
		{Kind: Mark, N: 1},
		{Kind: Done, N: 1, X: -1, Y: -1, Not: true, Spans: ranges(1, 2)},
	}
	holdRun(t, p, a, 0, false, found(0, 2))
}

func TestManyInstructions(t *testing.T) {
	const many = 300000
	gos, twos, back := make([]Inst, many), make([]Inst, many), make([]Inst, many)
	for i := range many {
		gos[i], twos[i], back[i] = goTo(i+1), two(i+1, i+2), two(i-1, i+1)
	}
	text := []rune("ab")
	for _, p := range [][]Inst{gos, twos, back} {
		holdRun(t, p, text, 1, false, nil)
		holdRun(t, append(p, mark(0), mark(1), done()), text, 1, false, found(1, 1))
	}
}

func TestLongTexts(t *testing.T) {
	long := []rune(strings.Repeat("ab", api.MaxText/2))
	holdRun(t, compiled(t, "(?:(?:a|b)*a*b*)*c"), long, 0, false, nil)
	holdRun(t, compiled(t, "(?:a?b?){9}(?:a?b?){9}(a?b?){9}c"), long, 0, false, nil)
	holdRun(t, compiled(t, "((?:a|b|ab)*)$"), long, 0, false, found(0, 2000, 0, 2000))
	huge := []rune(strings.Repeat("ab", 100000) + "c")
	holdRun(t, compiled(t, "(a|b)*c"), huge, 0, false, found(0, 200001, 199999, 200000))
	holdRun(t, compiled(t, "(a+)c|b(c)"), huge, 0, false, found(199999, 200001, -1, -1, 200000, 200001))
}

// shortTexts has all texts of at most n of these runes.
func shortTexts(n int, runes ...rune) [][]rune {
	all := [][]rune{nil}
	for i := 0; i < len(all); i++ {
		if len(all[i]) < n {
			for _, r := range runes {
				all = append(all, append(slices.Clone(all[i]), r))
			}
		}
	}
	return all
}

func TestAllShortLists(t *testing.T) {
	some := []Inst{is('a'), notOne('a', 'a'), mark(0), mark(1), mark(-1), atBegin(), atEnd(), done(), {}, goTo(-1)}
	for x := range 4 {
		some = append(some, goTo(x))
		for y := range 4 {
			some = append(some, two(x, y))
		}
	}
	texts := shortTexts(2, 'a', 'b')
	for _, x := range some {
		for _, y := range some {
			for _, z := range some {
				for _, text := range texts {
					holdSame(t, []Inst{x, y, z, done()}, text, 0, false)
				}
				holdSame(t, []Inst{x, y, z}, []rune("ba"), 1, false)
			}
		}
	}
}

func randomInst(l *lot, n int) Inst {
	return Inst{
		Kind: among(l, One, One, Two, Two, Two, Go, Mark, Mark, AtBegin, AtEnd, Done, l.below(10)-1),
		N:    among(l, 0, 1, 2, 3, l.below(24)-2),
		X:    l.below(n+3) - 1,
		Y:    l.below(n+3) - 1,
		Not:  l.below(4) == 0,
		Spans: slices.Repeat([]api.Span{{
			From: among[int](l, 'a', 'a', 'b', 'A', -1, 1114112),
			To:   among[int](l, 'a', 'b', 'c', 'B', 0, 2000000),
		}}, among(l, 1, 1, 1, 0, 2)),
	}
}

func TestRandomLists(t *testing.T) {
	l := &lot{2}
	succeeded := 0
	for range 150000 {
		n := 1 + l.below(14)
		p := make([]Inst, n)
		for i := range p {
			p[i] = randomInst(l, n)
		}
		text := make([]rune, l.below(9))
		for i := range text {
			text[i] = among(l, 'a', 'b', 'A', 'B', 'c', '[', '@', -1, 1114112)
		}
		if holdSame(t, p, text, l.below(len(text)+3)-1, l.below(2) == 0) {
			succeeded++
		}
	}
	if succeeded < 10000 {
		t.Errorf("only %d lists succeed", succeeded)
	}
}

func TestRandomPatterns(t *testing.T) {
	l := &lot{3}
	texts := shortTexts(4, 'a', 'b')
	for range 4000 {
		p, e := Compile(randomNode(l, 1+l.below(4)))
		if e != api.OK {
			continue
		}
		for _, text := range texts {
			holdSame(t, p, text, l.below(len(text)+1), false)
		}
	}
}

// randomPattern draws a pattern of which no repeat has a Sub that may be empty:
// there the library of the language goes other ways.
func randomPattern(l *lot, deep int) string {
	if deep == 0 {
		return among(l, "a", "b", "[ab]", "[^a]", "[^b]", ".", "\\w", "\\D")
	}
	least := randomPattern(l, deep-1)
	switch l.below(5) {
	case 0:
		return least + randomPattern(l, l.below(deep))
	case 1:
		return "(" + least + "|" + randomPattern(l, l.below(deep)) + ")"
	case 2:
		return "(?:" + least + ")" + among(l, "+", "{2}", "{1,3}", "{2,}") + among(l, "", "?")
	case 3:
		return "(?:(" + least + ")" + among(l, "*", "?", "{0,2}") + among(l, "", "?") + randomPattern(l, l.below(deep)) + ")"
	}
	return "(" + least + ")"
}

// The library's patterns stand for the same texts and go the same ways.
func TestAgainstTheLibrary(t *testing.T) {
	l := &lot{4}
	texts := shortTexts(4, 'a', 'b')
	held := 0
	for range 6000 {
		s := among(l, "", "", "^") + randomPattern(l, l.below(4)) + among(l, "", "", "$", "b*", "(?:a|$)")
		n, groups, _, e := pattern.Parse([]rune(s))
		p, f := Compile(n)
		if e != api.OK || f != api.OK || groups > 9 {
			continue
		}
		fold := l.below(4) == 0
		x := regexp.MustCompile(s)
		if fold {
			x = regexp.MustCompile("(?i)" + s)
		}
		held++
		for _, text := range texts {
			if fold && len(text) > 0 {
				text = append([]rune{'A'}, text[1:]...)
			}
			m := x.FindStringSubmatchIndex(string(text))
			var want []api.Span
			if m != nil {
				want = found(m...)
			}
			holdRun(t, p, text, 0, fold, want)
		}
	}
	if held < 3000 {
		t.Errorf("only %d patterns were held", held)
	}
}

// P6.3

func TestMatchIsBehindFromAndWithinTheText(t *testing.T) {
	l := &lot{5}
	for range 4000 {
		p, e := Compile(randomNode(l, 1+l.below(4)))
		text := make([]rune, l.below(12))
		for i := range text {
			text[i] = among(l, 'a', 'b')
		}
		for from := range len(text) + 1 {
			got, is := Run(p, text, from, false)
			if e != api.OK || !is {
				continue
			}
			for i, s := range got {
				if (i == 0 || s.From != -1 || s.To != -1) && (s.From < from || s.To < s.From || s.To > len(text)) {
					t.Fatalf("Run(%v, %q, %d): %v", p, string(text), from, got)
				}
			}
			for between := from; between <= got[0].From; between++ {
				holdRun(t, p, text, between, false, got)
			}
		}
	}
}

// R3

func TestRunChangesNothing(t *testing.T) {
	fresh := func() ([]Inst, []rune) {
		return []Inst{mark(0), two(2, 4), one('a', 'b'), goTo(1), mark(1), done()}, []rune("xabx")
	}
	p, text := fresh()
	first, _ := Run(p, text, 1, true)
	second, _ := Run(p, text, 1, true)
	first[0] = api.Span{From: 7, To: 8}
	if !slices.Equal(second, found(1, 3)) {
		t.Errorf("the spans have become %v", second)
	}
	q, untouched := fresh()
	if !slices.EqualFunc(p, q, same) || !slices.Equal(text, untouched) {
		t.Errorf("the arguments have become %v, %v", p, text)
	}
}
