package transform

import (
	"math"
	"slices"
	"strings"
	"testing"

	"stylus/api"
)

// sample has the results for a pattern, a format and a text, without All and
// with it.
type sample struct{ p, f, s, first, all string }

func hold(t *testing.T, x Transform, s, want []rune) {
	t.Helper()
	if got, e := Apply(x, s); !slices.Equal(got, want) || e != api.OK {
		t.Errorf("Apply(%q, %q, %v, %v, %q): %q, %d, want %q", string(x.Pattern), string(x.Format), x.All, x.Fold, string(s), string(got), e, string(want))
	}
}

func holdSamples(t *testing.T, fold bool, l ...sample) {
	t.Helper()
	for _, x := range l {
		p, f, s := []rune(x.p), []rune(x.f), []rune(x.s)
		hold(t, Transform{p, f, false, fold}, s, []rune(x.first))
		hold(t, Transform{p, f, true, fold}, s, []rune(x.all))
	}
}

// holdBoth holds samples with Fold and without it.
func holdBoth(t *testing.T, l ...sample) {
	t.Helper()
	holdSamples(t, false, l...)
	holdSamples(t, true, l...)
}

// P8.2

func TestMatches(t *testing.T) {
	holdBoth(t,
		sample{"(a)", "<$1>", "banana", "b<a>nana", "b<a>n<a>n<a>"},
		sample{"a", "-", "a", "-", "-"},
		sample{"a", "-", "ab", "-b", "-b"},
		sample{"a", "-", "ba", "b-", "b-"},
		sample{"a", "-", "bab", "b-b", "b-b"},
		sample{"a", "-", "aba", "-ba", "-b-"},
		sample{"an", "-", "banana", "b-ana", "b--a"},
		sample{"ana", "-", "banana", "b-na", "b-na"},
		sample{"(?:an)+", "-", "banana", "b-a", "b-a"},
		// All of the text.
		sample{"banana", "-", "banana", "-", "-"},
		sample{".+", "<$0>", "banana", "<banana>", "<banana>"},
		sample{"^.+$", "<$0>", "banana", "<banana>", "<banana>"},
		// Side by side.
		sample{"a", "-", "aaa", "-aa", "---"},
		sample{"aa", "-", "aaaaa", "-aaa", "--a"},
		sample{".", "<$0>", "abc", "<a>bc", "<a><b><c>"},
		sample{"a+?", "-", "aaa", "-aa", "---"},
		sample{"a{2,3}", "-", "aaaaaaaa", "-aaaaa", "---"},
		sample{"(a)|(b)", "${1:+x}${2:+y}", "abc", "xbc", "xyc"},
	)
}

// What was put in is not searched.
func TestResultIsNotSearched(t *testing.T) {
	holdBoth(t,
		sample{"a", "aa", "aba", "aaba", "aabaa"},
		sample{"a", "$0$0", "aba", "aaba", "aabaa"},
		sample{"ab", "a", "abb", "ab", "ab"},
		sample{"ab", "", "aabb", "ab", "ab"},
		sample{"ab", "", "aabbab", "abab", "ab"},
		sample{"b", "ab", "b", "ab", "ab"},
	)
}

func TestNothingFound(t *testing.T) {
	holdBoth(t,
		sample{"q", "$1", "abc", "abc", "abc"},
		sample{"q", "", "abc", "abc", "abc"},
		sample{"q", "-", "", "", ""},
		sample{"abcd", "-", "abc", "abc", "abc"},
		sample{"ac", "-", "abc", "abc", "abc"},
		sample{"^b", "-", "abc", "abc", "abc"},
		sample{"b$", "-", "abc", "abc", "abc"},
		sample{"$^", "-", "a", "a", "a"},
		sample{"$a", "-", "a", "a", "a"},
		sample{"a^", "-", "a", "a", "a"},
		sample{"[^a-c]", "-", "abc", "abc", "abc"},
		sample{".", "-", "\n\n", "\n\n", "\n\n"},
	)
}

func TestFold(t *testing.T) {
	holdSamples(t, true,
		sample{"A", "${0:/upcase}", "aba", "Aba", "AbA"},
		sample{"(aB)", "<$1>", "ABabAbaBb", "<AB>abAbaBb", "<AB><ab><Ab><aB>b"},
		sample{"[a-c]+", "<$0>", "xaBcXAbC", "x<aBc>XAbC", "x<aBc>X<AbC>"},
		sample{"[^B]", "-", "bBa", "bB-", "bB-"},
		// Beyond A to Z there is no other case.
		sample{"é", "-", "Éé", "É-", "É-"},
		sample{"@", "-", "`@", "`-", "`-"},
		// The format stays as it is.
		sample{"a", "aA", "A", "aA", "aA"},
		sample{"(a)(A)", "$2$1", "aA", "Aa", "Aa"},
	)
	holdSamples(t, false,
		sample{"A", "${0:/upcase}", "aba", "aba", "aba"},
		sample{"A", "-", "aA", "a-", "a-"},
		sample{"(aB)", "<$1>", "ABabAbaBb", "ABabAb<aB>b", "ABabAb<aB>b"},
		sample{"[a-c]+", "<$0>", "xaBcXAbC", "x<a>BcXAbC", "x<a>B<c>XA<b>C"},
		sample{"[^B]", "-", "bBa", "-Ba", "-B-"},
		sample{"é", "-", "Éé", "É-", "É-"},
	)
}

func TestEmptyText(t *testing.T) {
	holdBoth(t,
		sample{"", "-", "", "-", "-"},
		sample{"", "", "", "", ""},
		sample{"^", "-", "", "-", "-"},
		sample{"$", "-", "", "-", "-"},
		sample{"^$", "-", "", "-", "-"},
		sample{"$^", "-", "", "-", "-"},
		sample{"a*", "<$0>", "", "<>", "<>"},
		sample{"(a)?", "<$1>", "", "<>", "<>"},
		sample{"(a)*", "${1:?y:n}", "", "n", "n"},
		sample{"a", "-", "", "", ""},
		sample{".", "-", "", "", ""},
	)
	for _, x := range optioned(nil, []rune("-$0")) {
		hold(t, x, nil, []rune("-"))
		hold(t, x, []rune{}, []rune("-"))
	}
	for _, x := range optioned([]rune{}, []rune{}) {
		hold(t, x, nil, nil)
		hold(t, x, []rune{}, nil)
		hold(t, x, []rune("ab"), []rune("ab"))
	}
}

// Whatever finds nothing but empty matches finds one at each place, the end too.
func TestEmptyMatches(t *testing.T) {
	for _, p := range []string{"", "()", "(?:)", "|", "q*", "q?", "q{0}", "(q)*", "|a", "|ab", "a*?", "a??", "(?:ab)*?", "b{0,3}?", "(?:^|)*", "(?:q|r)?"} {
		holdBoth(t,
			sample{p, "-", "", "-", "-"},
			sample{p, "-", "a", "-a", "-a-"},
			sample{p, "-", "ab", "-ab", "-a-b-"},
			sample{p, "-", "abab", "-abab", "-a-b-a-b-"},
			sample{p, "-", "\n\n", "-\n\n", "-\n-\n-"},
			sample{p, "<$0>", "ab", "<>ab", "<>a<>b<>"},
			sample{p, "", "ab", "ab", "ab"},
		)
	}
}

func TestEmptyMatchesBesideOthers(t *testing.T) {
	holdBoth(t,
		sample{"x*", "-", "axb", "-axb", "-a--b-"},
		// At the beginning, between runes, and at the end.
		sample{"x*", "<$0>", "a", "<>a", "<>a<>"},
		sample{"x*", "<$0>", "xa", "<x>a", "<x><>a<>"},
		sample{"x*", "<$0>", "ax", "<>ax", "<>a<x><>"},
		sample{"x*", "<$0>", "x", "<x>", "<x><>"},
		sample{"x*", "<$0>", "xx", "<xx>", "<xx><>"},
		sample{"x*", "<$0>", "abxx", "<>abxx", "<>a<>b<xx><>"},
		sample{"x*", "<$0>", "axxbxc", "<>axxbxc", "<>a<xx><>b<x><>c<>"},
		// Right behind one another.
		sample{"x?", "<$0>", "xx", "<x>x", "<x><x><>"},
		sample{"x?", "<$0>", "axxb", "<>axxb", "<>a<x><x><>b<>"},
		sample{"x|", "<$0>", "xax", "<x>ax", "<x><>a<x><>"},
		sample{"xx|", "<$0>", "xxx", "<xx>x", "<xx><>x<>"},
		sample{"|x", "<$0>", "xax", "<>xax", "<>x<>a<>x<>"},
		sample{"(x*)(y*)", "<$1,$2>", "xyx", "<x,y>x", "<x,y><x,><,>"},
	)
}

func TestAssertions(t *testing.T) {
	holdBoth(t,
		sample{"^", "-", "ab", "-ab", "-ab"},
		sample{"$", "-", "ab", "ab-", "ab-"},
		sample{"^|$", "-", "ab", "-ab", "-ab-"},
		sample{"$|^", "-", "ab", "-ab", "-ab-"},
		sample{"^$", "-", "a", "a", "a"},
		sample{"^a", "-", "aaa", "-aa", "-aa"},
		sample{"a$", "-", "aaa", "aa-", "aa-"},
		sample{"^a|b", "-", "abab", "-bab", "--a-"},
		sample{"^a*", "-", "aab", "-b", "-b"},
		sample{"a*$", "-", "baa", "b-", "b--"},
		sample{"^ab", "-", "abab", "-ab", "-ab"},
		sample{"(^)?a", "${1:-n}", "aa", "na", "nn"},
		// Beside matches that are empty, or are not.
		sample{"^|a", "-", "aa", "-aa", "-a-"},
		sample{"a|^", "-", "aa", "-a", "--"},
		sample{"a|$", "-", "aa", "-a", "---"},
		sample{"$|a", "-", "aa", "-a", "---"},
		sample{"b|$", "-", "ab", "a-", "a--"},
		// What was put in is neither the begin nor the end of the text.
		sample{"^a", "", "aaa", "aa", "aa"},
		sample{"a$", "", "aaa", "aa", "aa"},
		sample{"a$", "ba", "a", "ba", "ba"},
		// A new line is neither.
		sample{"^a", "-", "b\na", "b\na", "b\na"},
		sample{"a$", "-", "a\nb", "a\nb", "a\nb"},
		sample{"a$", "-", "a\n", "a\n", "a\n"},
		sample{"^", "-", "\n\n", "-\n\n", "-\n\n"},
	)
}

// Each kind of item with each state of a group: 0 and 1 are set, 2 is empty, 3
// is not set, and the pattern has no more.
func TestGroupsInEachItem(t *testing.T) {
	for _, c := range []struct{ ahead, behind, set, none string }{
		{"$", "", "aB", ""},
		{"$0", "", "aB", ""},
		{"${", "}", "aB", ""},
		{"${", ":/upcase}", "AB", ""},
		{"${", ":/downcase}", "ab", ""},
		{"${", ":/capitalize}", "AB", ""},
		{"${", ":+yes}", "yes", ""},
		{"${", ":+}", "", ""},
		{"${", ":?yes:no}", "yes", "no"},
		{"${", ":?:no}", "", "no"},
		{"${", ":?yes:}", "yes", ""},
		{"${", ":-no}", "aB", "no"},
		{"${", ":no}", "aB", "no"},
		{"${", ":}", "aB", ""},
	} {
		for n, digit := range "0123456789" {
			want := c.none
			if n < 2 {
				want = c.set
			}
			f := "<" + c.ahead + string(digit) + c.behind + ">"
			holdSamples(t, false, sample{"(aB)(c*)(d)?", f, "aB", "<" + want + ">", "<" + want + ">"})
			holdSamples(t, false, sample{"(aB)(c*)(d)?", f, "xaByaB", "x<" + want + ">yaB", "x<" + want + ">y<" + want + ">"})
		}
	}
}

func TestGroups(t *testing.T) {
	holdBoth(t,
		sample{"(1)(2)(3)(4)(5)(6)(7)(8)(9)", "$9$8$7$6$5$4$3$2$1$0", "a123456789", "a987654321123456789", "a987654321123456789"},
		sample{"(1)(2)(3)(4)(5)(6)(7)(8)", "$9$8$01$00", "12345678", "8112345678", "8112345678"},
		sample{"((a)b)", "$2$1$2", "ab", "aaba", "aaba"},
		sample{"(?:(a)|(b))*", "<$1$2>", "abba", "<ab>", "<ab><>"},
		sample{"(a*)(b|c)", "$2$1", "xaab", "xbaa", "xbaa"},
		sample{"(a)(b)?", "$1${2:-n}$0", "aba", "ababa", "abab" + "ana"},
		// A group that is not set is not the one of the match before.
		sample{"(a)|(b)", "<$1,$2>", "aba", "<a,>ba", "<a,><,b><a,>"},
		sample{"(a)?(b)", "${1:?y:n}", "abb", "yb", "yn"},
		sample{"(a)|b|$", "${1:-n}", "ab", "ab", "ann"},
	)
}

func TestFormats(t *testing.T) {
	holdBoth(t,
		sample{"a", "", "banana", "bnana", "bnn"},
		sample{"an", "", "banana", "bana", "ba"},
		sample{".*", "", "banana", "", ""},
		sample{"", "", "banana", "banana", "banana"},
		sample{"a", "xyz", "aba", "xyzba", "xyzbxyz"},
		sample{"a", "\\n\\$\\\\", "a", "\n$\\", "\n$\\"},
		sample{"a", "a", "aba", "aba", "aba"},
		sample{"a", "$0", "aba", "aba", "aba"},
		sample{"(a)", "$1", "aba", "aba", "aba"},
		sample{"a", "$1", "aba", "ba", "b"},
		sample{"[a-z]+", "${0:/capitalize}", "ab cd", "Ab cd", "Ab Cd"},
		sample{"a", "b${0:/upcase}c${1:x}", "a", "bAcx", "bAcx"},
		// What is filled in is not a format.
		sample{".+", "$0", "$1${2}\\n", "$1${2}\\n", "$1${2}\\n"},
	)
}

func TestOddRunes(t *testing.T) {
	odd := []rune{-1, math.MinInt32, 55296, 1114112, math.MaxInt32}
	for i, r := range odd {
		for _, x := range optioned([]rune("a"), []rune("-")) {
			hold(t, x, []rune{r, 'a', r}, []rune{r, '-', r})
			hold(t, x, []rune{r}, []rune{r})
		}
		for _, f := range []string{"<$1>", "<${1:/upcase}>", "<${1:/downcase}>", "<${1:/capitalize}>", "<${1:x}>", "<$0>"} {
			hold(t, Transform{[]rune("(.)"), []rune(f), true, true}, []rune{r, r}, []rune{'<', r, '>', '<', r, '>'})
			hold(t, Transform{[]rune("(\\W)"), []rune(f), false, false}, []rune{'a', r, r}, []rune{'a', '<', r, '>', r})
		}
		hold(t, Transform{Pattern: []rune("\\w"), All: true, Fold: true}, []rune{r, 'a', r}, []rune{r, r})
		for j, other := range odd {
			if r < 0 {
				break
			}
			// In the pattern and the format they are as any other one.
			want := []rune{other}
			if i == j {
				want = []rune{r, 'x', r}
			}
			hold(t, Transform{Pattern: []rune{r}, Format: []rune{r, 'x', r}, Fold: true}, []rune{other}, want)
		}
	}
}

// spoil overwrites a text, also beyond its end.
func spoil(s []rune) {
	s = s[:cap(s)]
	for i := range s {
		s[i] = -7
	}
}

// cut returns as many runes of a text as there are in a result.
func cut(s []rune) []rune {
	return s[:min(len(s), 2000)]
}

func repeated(s string, n int) []rune {
	return []rune(strings.Repeat(s, n))
}

// nearMost has numbers up to the limit, beside it and beyond.
func nearMost() []int {
	return []int{0, 1, 2, 999, 1000, 1001, 1995, 1996, 1997, 1998, 1999, 2000, 2001, 2002, 2003, 2004, 2005, 3999, 4000, 4001, 5000}
}

func TestResultsNearMost(t *testing.T) {
	for _, n := range nearMost() {
		for _, all := range []bool{false, true} {
			// What stays, ahead of what was filled in and behind it.
			for _, m := range nearMost() {
				s := slices.Concat(repeated("a", n), []rune("b"), repeated("c", m))
				hold(t, Transform{[]rune("b"), []rune("x$0y"), all, false}, s, cut(slices.Concat(repeated("a", n), []rune("xby"), repeated("c", m))))
				hold(t, Transform{[]rune("b"), nil, all, false}, s, cut(slices.Concat(repeated("a", n), repeated("c", m))))
			}
			hold(t, Transform{[]rune("b"), []rune("xy"), all, false}, repeated("a", n), cut(repeated("a", n)))
			hold(t, Transform{[]rune("$"), []rune("xy"), all, false}, repeated("a", n), cut(slices.Concat(repeated("a", n), []rune("xy"))))
		}
		hold(t, Transform{[]rune("a"), []rune("xy"), true, false}, repeated("a", n), cut(repeated("xy", n)))
		hold(t, Transform{[]rune("a"), []rune("xyz"), true, false}, repeated("a", n), cut(repeated("xyz", n)))
		hold(t, Transform{[]rune("a"), []rune("xyz"), true, false}, repeated("ab", n), cut(repeated("xyzb", n)))
		hold(t, Transform{nil, []rune("-"), true, false}, repeated("a", n), cut(append(repeated("-a", n), '-')))
		hold(t, Transform{nil, []rune("-"), false, false}, repeated("a", n), cut(append([]rune("-"), repeated("a", n)...)))
	}
}

// A text may be longer than a result: all of it is searched, and its end is the
// end.
func TestTextsLongerThanResults(t *testing.T) {
	for _, n := range []int{1999, 2000, 2001, 2002, 4000, 5000, 100000} {
		for _, x := range optioned([]rune("^a*$"), []rune("-")) {
			hold(t, x, repeated("a", n), []rune("-"))
			hold(t, x, append(repeated("a", n), 'b'), cut(append(repeated("a", n), 'b')))
		}
		hold(t, Transform{Pattern: []rune("a+")}, append(repeated("a", n), []rune("bab")...), []rune("bab"))
		hold(t, Transform{Pattern: []rune("a+"), All: true}, append(repeated("a", n), []rune("bab")...), []rune("bb"))
		hold(t, Transform{Pattern: []rune("a"), All: true}, append(repeated("a", n), []rune("bab")...), []rune("bb"))
		hold(t, Transform{Pattern: []rune("a*(b?)$"), Format: []rune("<$1>")}, append(repeated("a", n), 'b'), []rune("<b>"))
		hold(t, Transform{Pattern: []rune("a*(b)"), Format: []rune("<$1>"), All: true}, append(repeated("a", n), []rune("bb")...), []rune("<b><b>"))
		hold(t, Transform{Pattern: []rune("ab"), Format: []rune("-"), All: true}, repeated("ab", n), cut(repeated("-", n)))
	}
	hold(t, Transform{Pattern: []rune("a"), All: true}, repeated("ab", 1500), repeated("b", 1500))
	hold(t, Transform{Pattern: []rune("a"), All: true}, repeated("ab", 3000), repeated("b", 2000))
	hold(t, Transform{Pattern: []rune("ab?"), Format: []rune("x"), All: true}, append(repeated("ab", 2000), 'c'), repeated("x", 2000))
	// A match that begins behind what fits, or ends there.
	hold(t, Transform{Pattern: []rune("b"), Format: []rune("x")}, append(repeated("a", 2500), 'b'), repeated("a", 2000))
	hold(t, Transform{Pattern: []rune("b+"), Format: []rune("x")}, slices.Concat(repeated("a", 1999), repeated("b", 500), []rune("a")), append(repeated("a", 1999), 'x'))
	hold(t, Transform{Pattern: []rune("b+"), Format: []rune("x")}, slices.Concat(repeated("a", 1998), repeated("b", 500), []rune("aa")), append(repeated("a", 1998), 'x', 'a'))
	hold(t, Transform{Pattern: []rune("b+"), All: true}, slices.Concat(repeated("a", 1500), repeated("b", 1000), repeated("a", 400), repeated("b", 1000), []rune("a")), repeated("a", 1901))
}

// Groups may be longer than a result, too.
func TestLongGroups(t *testing.T) {
	for _, n := range []int{1, 1000, 1990, 1998, 1999, 2000, 2001, 2010, 4000, 20000} {
		s := repeated("aB", n)[:n]
		up, down := []rune(strings.ToUpper(string(s))), []rune(strings.ToLower(string(s)))
		for _, c := range []struct {
			f    string
			want []rune
		}{
			{"$1", s}, {"$0", s}, {"${1:/upcase}", up}, {"${1:/downcase}", down}, {"${1:/capitalize}", slices.Concat([]rune("A"), s[1:])},
			{"${1:+y}", []rune("y")}, {"${1:?y:n}", []rune("y")}, {"${1:n}", s}, {"${2:n}", []rune("n")}, {"$2", nil}, {"", nil},
			{"$1$1", slices.Concat(s, s)}, {"${1:/upcase}${1:/downcase}", slices.Concat(up, down)},
		} {
			for _, ahead := range []string{"", "x", "xyz"} {
				for _, x := range optioned([]rune("((?:aB?)+)"), []rune(ahead+c.f+".")) {
					hold(t, x, slices.Concat(s, []rune("--")), cut(slices.Concat([]rune(ahead), c.want, []rune(".--"))))
				}
			}
		}
	}
}

func TestResultsMuchLongerThanTexts(t *testing.T) {
	for _, n := range []int{1, 2, 9, 10, 11, 100, 2000, 100000} {
		whole := cut(slices.Repeat(repeated("ab", n), 200))
		for _, x := range optioned([]rune(".*$"), repeated("$0", 200)) {
			hold(t, x, repeated("ab", n), whole)
		}
		hold(t, Transform{[]rune("(a)|b"), repeated("$0", 200), true, false}, repeated("ab", n), cut(slices.Repeat(append(repeated("a", 200), repeated("b", 200)...), n)))
		hold(t, Transform{nil, repeated("x", 400), true, false}, repeated("a", n), cut(slices.Repeat(append(repeated("x", 400), 'a'), n+1)[:401*n+400]))
		hold(t, Transform{nil, repeated("x", 400), false, false}, repeated("a", n), cut(append(repeated("x", 400), repeated("a", n)...)))
	}
}

// P8.3

func TestTextsInWhichNothingIsFound(t *testing.T) {
	for _, n := range append(nearMost(), 9000) {
		s := repeated("ab", n)[:n]
		for _, p := range []string{"c", "bb", "aa", "b^", "$a", "(c)|(d)", "[^ab]", "[c-z]+", "^b", "ab{2}", "(?:ab)*c", "\\n", "\n", "(a)(a)", "^(?:ab)*ac$"} {
			for _, f := range []string{"", "-", "$0", "$1", "${1:-n}", "${1:?y:n}"} {
				for _, x := range optioned([]rune(p), []rune(f)) {
					hold(t, x, s, cut(s))
				}
			}
		}
	}
}

// R3

func TestArgumentsStayAndAreNotKept(t *testing.T) {
	for _, p := range []string{"", "a", "(a)", "b*", ".*", "q", "^", "$", "(?:ab)+$"} {
		for _, f := range []string{"", "x", "$0", "$1", "$0$0", "${1:n}", "${0:/upcase}", "${0:+x}"} {
			for _, s := range []string{"", "a", "abab", strings.Repeat("ab", 1000), strings.Repeat("ab", 2000)} {
				for _, x := range optioned(append([]rune(p), 'Z', 'Z')[:len(p)], append([]rune(f), 'Z', 'Z')[:len(f)]) {
					holdOwnMemory(t, x, append([]rune(s), 'Z', 'Z')[:len(s)])
				}
			}
		}
	}
}

// holdOwnMemory holds that a result and the arguments do not change with one
// another, nor two results.
func holdOwnMemory(t *testing.T, x Transform, s []rune) {
	t.Helper()
	lists := [][]rune{x.Pattern, x.Format, s}
	var before [3][]rune
	for i, l := range lists {
		before[i] = slices.Clone(l[:len(l)+2])
	}
	Check(x)
	got, _ := Apply(x, s)
	want := slices.Clone(got)
	other, _ := Apply(x, s)
	spoil(other)
	for i, l := range lists {
		if !slices.Equal(l[:len(l)+2], before[i]) {
			t.Errorf("Apply(%q, %q, %q): argument %d has changed", string(x.Pattern), string(x.Format), string(s), i)
		}
	}
	for _, l := range lists {
		spoil(l)
	}
	if !slices.Equal(got, want) {
		t.Errorf("Apply(%q, %q, %q): the result has changed", string(before[0]), string(before[1]), string(before[2]))
	}
	for i, l := range lists {
		copy(l[:len(l)+2], before[i])
	}
}

// R4

func TestCallsDoNotDependOnOthers(t *testing.T) {
	x := Transform{[]rune("(a)|(B)"), []rune("<${1:/upcase}$2>"), true, false}
	for range 100 {
		hold(t, x, []rune("aBab"), []rune("<A><B><A>b"))
		x.Fold = true
		hold(t, x, []rune("aBab"), []rune("<A><B><A><b>"))
		x.All = false
		hold(t, x, []rune("baBab"), []rune("<b>aBab"))
		holdError(t, []rune("("), nil, api.ErrForm)
		hold(t, Transform{}, []rune("ab"), []rune("ab"))
		x.All, x.Fold = true, false
	}
}
