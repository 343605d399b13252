package pattern

import (
	"math"
	"slices"
	"strings"
	"testing"

	"stylus/api"
)

// holdFaultOf holds that a text is no pattern, with the place of its first error.
func holdFaultOf(t *testing.T, s []rune, at int, e api.Errno) {
	t.Helper()
	if x, groups, a, errno := Parse(s); !same(x, Node{}) || groups != 0 || a != at || errno != e {
		t.Errorf("Parse(%q %d): %v, %d, %d, %d, want %d, %d", string(s), s, x, groups, a, errno, at, e)
	}
}

func holdFault(t *testing.T, s string, at int, e api.Errno) {
	t.Helper()
	holdFaultOf(t, []rune(s), at, e)
}

func holdRight(t *testing.T, s string, groups int) {
	t.Helper()
	if x, n, at, e := Parse([]rune(s)); (x.Kind != Cat && x.Kind != Alt) || n != groups || at != 0 || e != api.OK {
		t.Errorf("Parse(%q): %v, %d, %d, %d, want %d groups", s, x, n, at, e, groups)
	}
}

// faults are texts with the place of their first error, which is ErrForm.
func faults() map[string]int {
	return map[string]int{
		// No piece begins so.
		")": 0, "]": 0, "{": 0, "}": 0, "*": 0, "+": 0, "?": 0, "{1}": 0,
		"a)": 1, "a]": 1, "a}": 1, "a|)": 2, "a|]": 2, "a|{": 2, "a|}": 2, "a|*": 2, "a|+": 2, "a|?": 2, "|*": 1,
		"(*)": 1, "(+)": 1, "(?)": 1, "({1})": 1, "(])": 1, "(})": 1, "(?:*)": 3, "(?:?)": 3, "(|?)": 2,
		"1}": 1, "a,}": 2,

		// Repeats of nothing that can be repeated.
		"a**": 2, "a*+": 2, "a*{1}": 2, "a+*": 2, "a++": 2, "a+{": 2, "a?*": 2, "a?+": 2, "a?{1}": 2,
		"a*?*": 3, "a*??": 3, "a+??": 3, "a???": 3, "a*?{1}": 3, "a??{1}": 3,
		"a{1}{1}": 4, "a{1}*": 4, "a{1}+": 4, "a{1}??": 5, "a{1,}*": 5, "a{1,2}*": 6, "a{1,2}?+": 7,
		"^*": 1, "^+": 1, "^?": 1, "^{1}": 1, "^{": 1, "$*": 1, "$+": 1, "$?": 1, "$??": 1, "$${1}": 2, "$^*": 2, "a^*": 2, "(^*)": 2, "a|$+": 3,

		// What follows {.
		"a{": 2, "a{}": 2, "a{,}": 2, "a{,3}": 2, "a{x}": 2, "a{ 1}": 2, "a{-1}": 2, "a{a": 2, "a{/}": 2, "a{:}": 2, "a{\u0661}": 2, "a{\\d}": 2, "a{{": 2, "a{?": 2,
		"a{1": 3, "a{12}": 3, "a{1 }": 3, "a{1x": 3, "a{01}": 3, "a{1?": 3, "a{1{": 3, "a{1-2}": 3,
		"a{1,": 4, "a{1,x}": 4, "a{1,,}": 4, "a{1, }": 4, "a{1,/}": 4, "a{1,:}": 4, "a{2,1}": 4, "a{9,8}": 4, "a{1,0}": 4, "a{1,?": 4,
		"a{1,2": 5, "a{1,23}": 5, "a{1,2,}": 5, "a{1,2x": 5, "a{0,0": 5, "a{1,2?": 5,

		// A \ ahead of nothing.
		"\\": 1, "a\\": 2, "(\\": 2, "\\\\\\": 3, "[\\": 2, "[a\\": 3, "[^\\": 3, "[a-\\": 4, "[\\\\\\": 4,

		// Sets.
		"[": 1, "[^": 2, "[]": 1, "[^]": 2, "[]a]": 1, "[^]a]": 2,
		"[a": 2, "[^a": 3, "[a-": 3, "[a-b": 4, "[a\\]": 4, "[\\d": 3, "[a-\\]": 3, "[!-\\]": 5, "[[": 2, "(?:[a)": 6,
		"[^^]": 2, "[a^]": 2, "[a^b]": 2, "[\\^^]": 3, "[^^": 2, "[a-^]": 3, "[\\d^]": 3, "[a-b^": 4,
		"[-]": 1, "[-a]": 1, "[^-]": 2, "[^-a]": 2, "[a-]": 3, "[a--]": 3, "[--a]": 1, "[a-b-c]": 4, "[a-b-]": 4, "[+--]": 3,
		"[\\d-a]": 3, "[\\d-]": 3, "[\\w-a]": 3, "[\\s-~]": 3, "[\\d-\\d]": 3, "[x\\d-a]": 4, "[^\\s-~]": 4, "[\\d-": 3,
		"[a-\\d]": 4, "[a-\\w]": 4, "[a-\\s]": 4, "[\t-\\s]": 4, "[\t-\\d]": 4, "[\t-\\w]": 4, "[z-\\d]": 4, "[z-\\d": 4,
		"[\\D]": 2, "[\\W]": 2, "[\\S]": 2, "[a\\D]": 3, "[\t-\\D]": 4, "[\\N]": 2, "[\\T]": 2, "[\\0]": 2, "[\\b]": 2,
		"[b-a]": 3, "[b-a": 3, "[^b-a]": 4, "[xb-a]": 4, "[b-\\^]": 3, "[b-\\^": 3, "[\\]-\\[]": 4, "[a-\\n]": 3, "[a-\\t]": 3, "[\\n-\\t]": 4, "[\\n-\t]": 4, "[n-\\n": 3, "[a-cb-a]": 6, "[€-é]": 3,

		// A \ ahead of what has no meaning.
		"\\q": 1, "\\b": 1, "\\N": 1, "\\T": 1, "\\0": 1, "\\1": 1, "\\9": 1, "\\A": 1, "\\Z": 1, "\\a": 1, "\\z": 1, "(a)\\1": 4, "a|\\e": 3,

		// Groups.
		"(": 1, "(a": 2, "a(b": 3, "(a|": 3, "((a)": 4, "(?:": 3, "(?:a": 4, "(()": 3, "(a\\)": 4, "([)": 3, "([)]": 4, "(a*": 3,
		"(?": 1, "(?)a": 1, "(?a)": 1, "(?=a)": 1, "(?!a)": 1, "(??:a)": 1, "(?*": 1, "(?|": 1, "(?a:": 1, "(? :)": 1, "(?\\:)": 1, "(?(:": 1, "a(?b": 2, "((?b))": 2, "(?:(?b))": 4,
		"())": 2, "a())": 3, "(a))b": 3, "(?:))": 4, "a|b)": 3, "(a)|)": 4, "([(]))": 5, "(\\())": 4,
	}
}

// P5.1

func TestFaults(t *testing.T) {
	for s, at := range faults() {
		holdFault(t, s, at, api.ErrForm)
	}
}

// What follows a fault is not read, unless the fault is that the text has ended.
func TestFaultsComeBeforeWhatFollows(t *testing.T) {
	for s, at := range faults() {
		if at == len([]rune(s)) {
			continue
		}
		for _, more := range []string{"*", ")", "(", "[", "\\", strings.Repeat("(", 20), strings.Repeat("()", 12)} {
			holdFault(t, s+more, at, api.ErrForm)
		}
		holdFaultOf(t, append([]rune(s), -1), at, api.ErrForm)
	}
}

// Whatever is right ahead of a fault moves its place, and no more.
func TestFaultsBehindWhatIsRight(t *testing.T) {
	for s, at := range faults() {
		for _, p := range append(atoms(), anchors()...) {
			holdFault(t, p.s+"|"+s, len([]rune(p.s))+1+at, api.ErrForm)
		}
		for _, ahead := range []string{"a|b*|", "(a)|", "((?:b)c)|", "a{2,3}?|", "[^(\\]]|", "^$|"} {
			holdFault(t, ahead+s, len([]rune(ahead))+at, api.ErrForm)
		}
	}
}

func TestFaultsInsideGroups(t *testing.T) {
	for s, at := range faults() {
		// A ) that is too many ends the group around it.
		if strings.HasPrefix(string([]rune(s)[at:]), ")") {
			continue
		}
		holdFault(t, "("+s, 1+at, api.ErrForm)
		holdFault(t, "(?:"+s, 3+at, api.ErrForm)
	}
}

// rightPatterns are patterns with all that a pattern may consist of.
func rightPatterns() []string {
	return []string{
		"abc", "a|b||c", "(a)(b(c))", "(?:a|(?:b))", "[abc]", "[^a-c\\d\\n-\\]]", "[\\^\\--a]", "a*b+?c??", "a{1}b{2,}?c{3,4}", "^a$|.", "\\d\\D\\n\\.\\\\", "(?:)", "()*",
	}
}

// A rune below 0 cannot occur anywhere.
func TestRunesBelowZero(t *testing.T) {
	for _, below := range []rune{-1, -2, -('z' - 'a'), math.MinInt32 + 1, math.MinInt32} {
		holdFaultOf(t, []rune{below}, 0, api.ErrForm)
		for _, right := range rightPatterns() {
			s := []rune(right)
			for i := range len(s) + 1 {
				at := i
				// With a ? but no : after it the place is that of the ?.
				if i >= 2 && s[i-2] == '(' && s[i-1] == '?' {
					at = i - 1
				}
				holdFaultOf(t, slices.Insert(slices.Clone(s), i, below), at, api.ErrForm)
				holdFaultOf(t, append(slices.Clone(s[:i]), below), at, api.ErrForm)
			}
		}
	}
}

func TestRunesBelowZeroInFrontOfOtherFaults(t *testing.T) {
	for s := range faults() {
		holdFaultOf(t, append([]rune{-5}, []rune(s)...), 0, api.ErrForm)
		holdFaultOf(t, append([]rune{'a', '|', -5}, []rune(s)...), 2, api.ErrForm)
	}
}

func TestRunesBelowZeroInsteadOfOthers(t *testing.T) {
	// These are the runes that have a meaning, less 2^16 or with all bits turned.
	for _, r := range "()[]{}*+?|\\.^$-,:0aznd" {
		for _, below := range []rune{^r, -r, r - 1<<16, r + math.MinInt32} {
			holdFaultOf(t, []rune{'a', below}, 1, api.ErrForm)
			holdFaultOf(t, []rune{'(', 'a', below}, 2, api.ErrForm)
			holdFaultOf(t, []rune{'[', 'a', below, ']'}, 2, api.ErrForm)
			holdFaultOf(t, []rune{'[', '\\', below, ']'}, 2, api.ErrForm)
			holdFaultOf(t, []rune{'[', 'a', '-', below, ']'}, 3, api.ErrForm)
			holdFaultOf(t, []rune{'\\', below}, 1, api.ErrForm)
			holdFaultOf(t, []rune{'a', '{', below, '}'}, 2, api.ErrForm)
			holdFaultOf(t, []rune{'a', '{', '1', ',', below, '}'}, 4, api.ErrForm)
		}
		// Beyond what is valid a rune is as any other one.
		above := r + 1<<24
		hold(t, []rune{'a', above}, cat(char('a'), char(above)), 0)
		hold(t, []rune{'[', above, ']', '\\', above}, cat(set(int(above), int(above)), char(above)), 0)
		holdFaultOf(t, []rune{'a', '{', above, '}'}, 2, api.ErrForm)
		holdFaultOf(t, []rune{'a', '{', '1', above}, 3, api.ErrForm)
	}
}

func TestNumberOfRunes(t *testing.T) {
	for _, n := range []int{1, 2, api.MaxPat - 1, api.MaxPat} {
		want := cat()
		for range n {
			want.Subs = append(want.Subs, char('a'))
		}
		hold(t, []rune(strings.Repeat("a", n)), want, 0)
		hold(t, make([]rune, n), cat(slices.Repeat([]Node{char(0)}, n)...), 0)
		hold(t, []rune(strings.Repeat("|", n)), alt(slices.Repeat([]Node{cat()}, n+1)...), 0)
	}
	for _, n := range []int{api.MaxPat + 1, api.MaxPat + 2, 2 * api.MaxPat, 256, 1 << 16, 1 << 20} {
		for _, r := range []rune{'a', 0, '(', ')', '*', '|', '[', '\\', -1, math.MinInt32, math.MaxInt32} {
			holdFaultOf(t, slices.Repeat([]rune{r}, n), 0, api.ErrFull)
		}
	}
}

func TestFaultsUpToTheLastRune(t *testing.T) {
	ahead := strings.Repeat("a", api.MaxPat-1)
	for _, s := range []string{")", "]", "}"} {
		holdFault(t, ahead+s, api.MaxPat-1, api.ErrForm)
		holdFault(t, ahead+"a"+s, 0, api.ErrFull)
	}
	for _, s := range []string{"(", "[", "{", "\\"} {
		holdFault(t, ahead+s, api.MaxPat, api.ErrForm)
		holdFault(t, ahead+"a"+s, 0, api.ErrFull)
	}
	holdFault(t, ahead[:api.MaxPat-2]+"(?", api.MaxPat-1, api.ErrForm)
	holdFault(t, ahead[:api.MaxPat-3]+"(?:", api.MaxPat, api.ErrForm)
}

// nested opens so many groups; those whose bit is set have no number.
func nested(count, unnumbered int) string {
	var s strings.Builder
	for i := range count {
		s.WriteString("(")
		if unnumbered>>i&1 == 1 {
			s.WriteString("?:")
		}
	}
	return s.String()
}

func TestDepth(t *testing.T) {
	for unnumbered := range 1 << api.MaxDeep {
		for _, count := range []int{api.MaxDeep - 1, api.MaxDeep} {
			open, groups := nested(count, unnumbered), 0
			for i := range count {
				groups += 1 - unnumbered>>i&1
			}
			holdRight(t, open+"a"+strings.Repeat(")", count), groups)
			holdRight(t, open+"[(]\\("+strings.Repeat(")", count), groups)
			holdFault(t, open, len(open), api.ErrForm)
		}
		open := nested(api.MaxDeep, unnumbered)
		for _, more := range []string{"(", "(?", "(?:", "(?x", "(a)", "(?:)", "(*"} {
			holdFault(t, open+more, len(open), api.ErrDeep)
			holdFault(t, open+"a|"+more, len(open)+2, api.ErrDeep)
		}
	}
	for count := range api.MaxDeep + 1 {
		holdRight(t, nested(count, 0)+strings.Repeat(")", count), count)
	}
}

func TestDepthIsThatOfGroupsThatHaveNotEnded(t *testing.T) {
	open, end := nested(api.MaxDeep-1, 0x55), strings.Repeat(")", api.MaxDeep-1)
	holdRight(t, open+"(?:)(?:)(?:)"+end, 3)
	holdFault(t, open+"(?:)(?:)(?:(", len(open)+4+4+3, api.ErrDeep)
	holdFault(t, open+"(?:)(?:(?:", len(open)+4+3, api.ErrDeep)
	eight := nested(api.MaxDeep, 0) + strings.Repeat(")", api.MaxDeep)
	holdRight(t, eight+"()", 9)
	holdRight(t, eight+nested(api.MaxDeep, 0xFF)+strings.Repeat(")", api.MaxDeep), 8)
	holdFault(t, eight+nested(api.MaxDeep, 0xFF)+"(", 16+24, api.ErrDeep)
	holdRight(t, strings.Repeat("(?:)", 15), 0)
}

func TestNumberOfGroups(t *testing.T) {
	for _, count := range []int{1, 8, 9} {
		holdRight(t, strings.Repeat("()", count), count)
		holdRight(t, strings.Repeat("(a)|", count), count)
		holdRight(t, strings.Repeat("(?:)()", count), count)
		holdRight(t, strings.Repeat("()", count)+"(?:a)(?:(?:b))", count)
		holdRight(t, "(?:"+strings.Repeat("()", count)+")", count)
	}
	nine := strings.Repeat("()", 9)
	for _, more := range []string{"(", "()", "(a", "(?", "(?x)", "(?)", "(*", "(()", "(?=a)", "(??:)"} {
		holdFault(t, nine+more, 18, api.ErrFull)
		holdFault(t, nine+"a|"+more, 20, api.ErrFull)
		holdFault(t, nine+"(?:)"+more, 22, api.ErrFull)
		holdFault(t, nine+"(?:"+more, 21, api.ErrFull)
		holdFault(t, "(?:)"+nine+more, 22, api.ErrFull)
	}
	holdRight(t, nine+"[(]\\((?:a)", 9)
	holdFault(t, nested(8, 0)+")()(", 8+1+2, api.ErrFull)
	holdFault(t, nested(8, 0)+"a))()()", 8+1+2+2, api.ErrFull)
	holdRight(t, nested(8, 0)+"a))()"+strings.Repeat(")", 6), 9)
}

// P5.1, R2

func TestFirstOfSeveralErrors(t *testing.T) {
	eight, nine := nested(8, 0), strings.Repeat("()", 9)
	for _, c := range []struct {
		s  string
		at int
		e  api.Errno
	}{
		// The same ( is too deep and begins a tenth group.
		{"()" + eight + "(", 10, api.ErrDeep},
		{"()" + eight + "(?", 10, api.ErrDeep},
		{"()(?:)" + eight + "(*", 14, api.ErrDeep},
		{nine + nested(8, 0xFF) + "(", 18 + 24, api.ErrDeep},
		{nine + nested(7, 0x7F) + "(", 18 + 21, api.ErrFull},
		// One is ahead of the other.
		{"()()" + eight + "(", 11, api.ErrFull},
		{"()()" + eight[1:] + "(?:(", 14, api.ErrDeep},
		{eight + "(" + nine + "(", 8, api.ErrDeep},
		{nine + "(" + eight + "(", 18, api.ErrFull},
		{eight + "*(", 8, api.ErrForm},
		{eight + "a**(", 10, api.ErrForm},
		{eight + "(*", 8, api.ErrDeep},
		{eight + "[](", 9, api.ErrForm},
		{nine + "*(", 19, api.ErrFull},
		{nine + "**(", 19, api.ErrForm},
		{nine + "(**", 18, api.ErrFull},
		{nine + ")(", 18, api.ErrForm},
		{nine + "[b-a](", 21, api.ErrForm},
		{nine + "a{2,1}(", 22, api.ErrForm},
		{"a**b[", 2, api.ErrForm},
		{"(a]b\\q", 2, api.ErrForm},
		{"[b-a\\q", 3, api.ErrForm},
		{"[b-\\q", 4, api.ErrForm},
		{"a{2,1\\q", 4, api.ErrForm},
		{"\\q*)", 1, api.ErrForm},
		{"*" + eight + "(", 0, api.ErrForm},
		{"*" + nine + "(", 0, api.ErrForm},
	} {
		holdFault(t, c.s, c.at, c.e)
		holdFaultOf(t, append([]rune(c.s), -1), c.at, c.e)
	}
	long := strings.Repeat("a", api.MaxPat)
	for _, more := range []string{"*", ")", "(", eight + "(", nine + "("} {
		holdFault(t, more+long, 0, api.ErrFull)
		holdFault(t, long+more, 0, api.ErrFull)
	}
	holdFaultOf(t, append([]rune{-1}, []rune(long)...), 0, api.ErrFull)
}
