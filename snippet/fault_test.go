package snippet

import (
	"math"
	"slices"
	"strings"
	"testing"

	"stylus/api"
	"stylus/transform"
)

// holdError holds that Parse returns an error with this place, and no parts.
func holdError(t *testing.T, s []rune, at int, e api.Errno) {
	t.Helper()
	if l, a, errno := Parse(s); len(l) != 0 || a != at || errno != e {
		t.Errorf("Parse(%q %d): %v, %d, %d, want %d, %d", string(s), s, l, a, errno, at, e)
	}
}

// holdFault holds that a text is no snippet from a place on.
func holdFault(t *testing.T, s string, at int) {
	t.Helper()
	holdError(t, []rune(s), at, api.ErrForm)
}

func holdDeep(t *testing.T, s string, at int) {
	t.Helper()
	holdError(t, []rune(s), at, api.ErrDeep)
}

// faults are texts with the place at which they cannot continue, or of a
// transform that is not right.
func faults() map[string]int {
	m := map[string]int{
		// What follows a $.
		"$": 1, "$-": 1, "$ ": 1, "$$": 1, "$$1": 1, "$}": 1, "$:": 1, "$/": 1, "$|": 1, "$\\": 1, "$\\1": 1, "$\\{1}": 1, "$é": 1, "$٠": 1, "$²": 1, "$(1)": 1, "$-1": 1, "$@": 1, "$[": 1, "$`": 1, "$^": 1,
		"ab$": 3, "ab$-": 3, "\\$$": 3, "\\\\$": 3, "$1$": 3, "$12$": 4, "$123$": 5, "$ab$": 4, "${1}$": 5, "}$}": 2, "{$}": 2,

		// What follows ${.
		"${": 2, "${}": 2, "${:": 2, "${:a}": 2, "${/": 2, "${|a|}": 2, "${ 1}": 2, "${-1}": 2, "${+1}": 2, "${$1}": 2, "${{1}}": 2, "${\\1}": 2, "${é}": 2, "${٠}": 2, "${²": 2, "${-a}": 2, "${//}": 2,

		// What follows a number in braces.
		"${1": 3, "${0": 3, "${12": 4, "${00": 4, "${123": 4, "${123}": 4, "${001}": 4, "${1a}": 3, "${1_}": 3, "${12a}": 4, "${1 }": 3, "${1;}": 3, "${1,a|}": 3, "${1+a}": 3, "${1-a}": 3, "${1?a:b}": 3, "${1$": 3, "${1$2}": 3, "${1{": 3, "${1\\}": 3, "${1\\:a}": 3, "${1\\2}": 3, "${1٠}": 3, "${1é}": 3,

		// What follows a name in braces.
		"${a": 3, "${ab": 4, "${a1": 4, "${_": 3, "${a }": 3, "${a-b}": 3, "${a;}": 3, "${a.b}": 3, "${a|b|}": 3, "${x|": 3, "${a1|b|}": 4, "${a$": 3, "${a{": 3, "${a\\}": 3, "${a\\:b}": 3, "${aé}": 3, "${a٠}": 3,

		// Snippets inside parts that do not end, or are none.
		"${1:": 4, "${1:a": 5, "${1:a\\}": 7, "${1:\\}": 6, "${1:{": 5, "${1:$2": 6, "${1:$a": 6, "${1:${2}": 8, "${1:${2:}": 9, "${1:${2:": 8, "${1:${2:a": 9, "${1:a$}": 6, "${1:$}": 5, "${1:${}}": 6, "${a:": 4, "${ab:": 5, "${a:b": 5, "${a:$": 5, "${a:$-}": 5, "${1:${a:$-}}": 9, "${1:${2|a}": 10, "${1:${x|a|}}": 7,

		// Choices that do not end.
		"${1|": 4, "${1|}": 5, "${1|a": 5, "${1|a}": 6, "${1|a,": 6, "${1|a,b": 7, "${1|,": 5, "${1||": 5, "${1|a|": 6, "${1|a,b|": 8, "${1|a,|": 7, "${1|a\\|": 7, "${1|a\\|}": 8, "${1|a\\,": 7, "${1|\\\\": 6, "${12|a": 6,
		"${1||a}": 5, "${1|||}": 5, "${1|a|b|}": 6, "${1|a||}": 6, "${1|a|,b|}": 6, "${1|a|:b}": 6, "${1|a|/b/c/}": 6, "${1|a|\\}": 6, "${1|a| }": 6, "${1|a|$": 6, "${1|a,b|,": 8,

		// Transforms that do not end, or have other options.
		"${1/": 4, "${1/}": 5, "${1/a": 5, "${1/a}": 6, "${1/a/": 6, "${1/a/}": 7, "${1/a/b": 7, "${1/a/b}": 8, "${1/a/b/": 8, "${1//": 5, "${1///": 6, "${1//}": 6, "${1/a\\/": 7, "${1/a\\/b": 8, "${1/a\\/b}": 9, "${1/a/b\\/": 9, "${1/a/b\\/}": 10, "${1/[/]": 7, "${1/[/]/b/}": 8, "${12/a": 6, "${a/": 4, "${ab/c": 6, "${a/b/c": 7, "${a/b/c/": 8,
		"${1/a/b/x}": 8, "${1/a/b/ }": 8, "${1/a/b//}": 8, "${1/a/b/\\}": 8, "${1/a/b/:}": 8, "${1/a/b/G}": 8, "${1/a/b/I}": 8, "${1/a/b/m}": 8, "${1/a/b/1}": 8, "${1/a/b/$": 8, "${1/a/b/{": 8, "${1/a/b/|": 8,
		"${1/a/b/g": 9, "${1/a/b/i": 9, "${1/a/b/gi": 10, "${1/a/b/ig": 10, "${1/a/b/gg": 9, "${1/a/b/gg}": 9, "${1/a/b/ii}": 9, "${1/a/b/ggi}": 9, "${1/a/b/iig}": 9, "${1/a/b/gig}": 10, "${1/a/b/gii}": 10, "${1/a/b/igi}": 10, "${1/a/b/igg}": 10, "${1/a/b/gx}": 9, "${1/a/b/ix}": 9, "${1/a/b/gix}": 10, "${1/a/b/igx}": 10, "${1/a/b/g/}": 9, "${1/a/b/g ": 9,
		"${1///gg}": 7, "${1///i ": 7, "${a/b/c/gg}": 9,

		// What begins with ${ in a format, and does not end.
		"${1/a/${": 8, "${1/a/${/": 9, "${1/a/${1": 9, "${1/a/${1/": 10, "${1/a/${1:+b/g": 14, "${1/a/${1:+\\}/": 14, "${1/a/${1:+\\}/g": 15, "${1/a/${1}": 10, "${1/a/${1:+\\\\}": 14, "${1/a/b${1//////": 16, "${1/a/\\\\${/}": 12, "${1/a/\\${/": 10, "${1/a/$${/": 10,

		// A \ ahead of nothing.
		"\\": 1, "a\\": 2, "\\\\\\": 3, "$1\\": 3, "$a\\": 3, "${1}\\": 5, "\\n\\": 3, "${1:\\": 5, "${1:a\\": 6, "${1:$2\\": 7, "${1:${2:\\": 9, "${1|\\": 5, "${1|a\\": 6, "${1|a,\\": 7, "${1|a\\\\\\": 8, "${1/\\": 5, "${1/a\\": 6, "${1/a\\\\\\": 8, "${1/a/\\": 7, "${1/a/b\\": 8, "${1/a/${1:+\\": 12, "${1/a/${1:+b\\": 13,
	}
	for s, at := range wrongTransforms() {
		m[s] = at
	}
	return m
}

// wrongTransforms are those for which transform.Check returns an error.
func wrongTransforms() map[string]int {
	return map[string]int{
		"${1/(/b/}": 3, "${12/(/b/}": 4, "${a/(/b/}": 3, "${ab1/(/b/}": 5, "${1/(/b/g}": 3, "${1/(/b/gi}": 3, "${1/(/b/ig}": 3, "${1/)//i}": 3, "${1/*/b/}": 3, "${1/[/b/}": 3, "${1/a{/b/}": 3, "${1/\\q/b/}": 3, "${1/[b-a]/b/}": 3, "${1/^*/b/}": 3, "${1/(?a)/b/}": 3, "${1/\\/(/b/}": 3,
		"${1/a/$/}": 3, "${1/a/$a/}": 3, "${1/a/$10/}": 3, "${1/a/${}/}": 3, "${1/a/${a}/}": 3, "${1/a/${1:/up}/g}": 3, "${1/a/${1:?b}/}": 3, "${1/a/${/}/gi}": 3, "${12/a/$/}": 4, "${a/b/$/}": 3, "${1/a/\\/$/}": 3, "${1//$/}": 3,
		// Both are wrong.
		"${1/(/$/}": 3, "${1/(/$10/gi}": 3,
		// Something stands ahead of it, or around it.
		"a${1/(/b/}": 4, "$2${1/(/b/}": 5, "\\$${1/(/b/}": 5, "${1/a/b/}${2/(/b/}": 12, "${1:${2/(/b/}}": 7, "${1:${2/(/b/}": 7, "${a:b${c:${2/a/$/}": 12,
		// Too long a pattern, one too deep, too many groups, too many instructions.
		"${1/" + strings.Repeat("a", 61) + "/b/}": 3, "${1/" + strings.Repeat("(", 9) + "a" + strings.Repeat(")", 9) + "/b/}": 3, "${1/" + strings.Repeat("()", 10) + "/b/}": 3, "${1/((a{9}){9}){9}/b/g}": 3, "${1/" + strings.Repeat("\\/", 61) + "/b/}": 3,
	}
}

// P9.1

func TestFaults(t *testing.T) {
	for s, at := range faults() {
		holdFault(t, s, at)
	}
}

// What follows a fault is not read, unless the fault is that the text has ended.
func TestFaultsComeBeforeWhatFollows(t *testing.T) {
	for s, at := range faults() {
		if at == len([]rune(s)) {
			continue
		}
		for _, more := range []string{"}", ":", "$", "\\", "0", "a", "${x|", "${1/(/b/}", "${1/a/b/gg}", strings.Repeat("${1:", 9) + "$1", strings.Repeat("a", 200)} {
			holdFault(t, s+more, at)
		}
		holdError(t, append([]rune(s), -1), at, api.ErrForm)
	}
}

// Whatever is right ahead of a fault moves its place, and no more.
func TestFaultsBehindWhatIsRight(t *testing.T) {
	for s, at := range faults() {
		for _, ahead := range []string{"a", "ab}", "\\n", "\\$", "\\\\", "${1}", "${a}", "${1:", "${a:b", "${1:${2:", "${1:$2-", strings.Repeat("${1:", 6)} {
			holdFault(t, ahead+s, len([]rune(ahead))+at)
		}
		for _, f := range append(forms(), chosen()...) {
			ahead := "${9" + f.s
			holdFault(t, ahead+s, len([]rune(ahead))+at)
		}
	}
}

func TestTextsCutOff(t *testing.T) {
	more := []form{{s: ":a\\}b${2:c\\$}}"}, {s: "|a\\,b,\\|,\\\\|}"}, {s: "/\\/\\d[\\/]/\\/${1:?\\:/:\\}/}$1\\n/gi}"}, {s: "/()/${1:/upcase}/ig}"}}
	for _, f := range slices.Concat(forms(), chosen(), more) {
		for _, digits := range []string{"1", "01"} {
			s := "${" + digits + f.s
			for i := 1; i < len(s); i++ {
				holdFault(t, s[:i], i)
				holdFault(t, "x$2"+s[:i], 3+i)
				holdFault(t, "${a:"+s[:i], 4+i)
			}
			holdFault(t, "${a:"+s, 4+len(s))
			if l, at, e := Parse([]rune(s)); e != api.OK {
				t.Errorf("Parse(%q): %v, %d, %d", s, l, at, e)
			}
		}
	}
	for _, f := range forms() {
		s := "${a_1" + f.s
		for i := 1; i < len(s); i++ {
			holdFault(t, s[:i], i)
		}
	}
}

// rightSnippets are snippets with all that a snippet may consist of.
func rightSnippets() []string {
	l := []string{"abc", "\\a\\n\\$", "$1", "$12", "$1a$2", "$a", "$a_1 $b", "a}b", "${1:a\\}b}", "${1:a${2:b$3}}c", "${1:${x:${y/a/b/}}}", "${1/\\/[\\/]\\d/\\/${1:?\\:/:\\}/}$1\\n/gi}", "${12|a\\,b,\\|,\\\\|}", "${1|$,{,}|}", "${1/(a)/$1${1}/i}"}
	for _, f := range append(forms(), chosen()...) {
		l = append(l, "${1"+f.s, "${01"+f.s)
	}
	for _, f := range forms() {
		l = append(l, "${ab"+f.s)
	}
	return l
}

func TestRightSnippets(t *testing.T) {
	for _, s := range rightSnippets() {
		if l, at, e := Parse([]rune(s)); e != api.OK || at != 0 || len(l) == 0 {
			t.Errorf("Parse(%q): %v, %d, %d", s, l, at, e)
		}
	}
}

// A rune below 0 cannot occur anywhere.
func TestRunesBelowZero(t *testing.T) {
	for _, below := range []rune{-1, -2, -7, -('a' - 'A'), math.MinInt32 + 1, math.MinInt32} {
		holdError(t, []rune{below}, 0, api.ErrForm)
		for _, right := range rightSnippets() {
			s := []rune(right)
			for i := range len(s) + 1 {
				holdError(t, slices.Insert(slices.Clone(s), i, below), i, api.ErrForm)
				holdError(t, append(slices.Clone(s[:i]), below), i, api.ErrForm)
				holdError(t, append(slices.Clone(s[:i]), below, -1, '$'), i, api.ErrForm)
			}
		}
	}
}

func TestRunesBelowZeroAmongOtherFaults(t *testing.T) {
	for s, at := range faults() {
		holdError(t, append([]rune{-5}, []rune(s)...), 0, api.ErrForm)
		holdError(t, append([]rune{'a', '$', '1', -5}, []rune(s)...), 3, api.ErrForm)
		holdError(t, append([]rune(s), -5), at, api.ErrForm)
	}
	// A transform that is not right comes before what follows its }, and after
	// what precedes it.
	for s, at := range wrongTransforms() {
		r := []rune(s)
		if end := slices.Index(r, '}'); end == len(r)-1 {
			holdError(t, slices.Insert(slices.Clone(r), end, -1), end, api.ErrForm)
			holdError(t, append(r, -1), at, api.ErrForm)
		}
	}
	deep := []rune(strings.Repeat("${1:", 9))
	holdError(t, append(slices.Clone(deep), -1, '$'), 36, api.ErrForm)
	holdError(t, append(slices.Clone(deep), '$', -1), 36, api.ErrDeep)
	holdError(t, append(slices.Clone(deep), 'a', '$', -1), 37, api.ErrDeep)
	holdError(t, append(append(slices.Clone(deep[:34]), -1), deep[34:]...), 34, api.ErrForm)
}

func TestRunesThatAreLikeOthers(t *testing.T) {
	// These are the runes that have a meaning, less 2^16 or with all bits turned.
	for _, r := range "${}\\:/|,0189aAzZ_gi" {
		for _, below := range []rune{^r, -r, r - 1<<16, r + math.MinInt32} {
			holdError(t, []rune{'a', below}, 1, api.ErrForm)
			holdError(t, []rune{'\\', below}, 1, api.ErrForm)
			for _, ahead := range []string{"$", "$1", "$a", "${", "${1", "${a", "${1:", "${1:\\", "${1|", "${1|\\", "${1|a,", "${1|a|", "${1/", "${1/\\", "${1/a/", "${1/a/\\", "${1/a/${", "${1/a/${1:+\\", "${1/a/b/", "${1/a/b/g", "${1/a/b/gi"} {
				holdError(t, append([]rune(ahead), below, '}', '/', '|', '}'), len(ahead), api.ErrForm)
			}
		}
	}
}

// Several errors in one text: what comes first is what is read first.
func TestSeveralErrors(t *testing.T) {
	deep := strings.Repeat("${1:", 9) + "$1"
	for _, c := range []struct {
		s  string
		at int
		e  api.Errno
	}{
		{"$-", 1, api.ErrForm}, {"${1/(/b/}", 3, api.ErrForm}, {deep, 36, api.ErrDeep}, {"${1/a/b/gg}", 9, api.ErrForm}, {"${x|a|}", 3, api.ErrForm}, {"${1|a|b", 6, api.ErrForm},
	} {
		for _, behind := range []string{"$-", "${1/(/b/}", deep, "${1/a/b/gg}", "${x|a|}", "${1|a|b", "$", "\\", "${1"} {
			holdError(t, []rune(c.s+behind), c.at, c.e)
			holdError(t, []rune("$2"+c.s+" "+behind), 2+c.at, c.e)
		}
	}
	// A transform is looked at when its } has been read, and not before it.
	holdFault(t, "${1/(/b", 7)
	holdFault(t, "${1/(/b/", 8)
	holdFault(t, "${1/(/b/x}", 8)
	holdFault(t, "${1/(/b/gg}", 9)
	holdFault(t, "${1/(/b/g", 9)
	holdFault(t, "${1/(/$/ii}", 9)
	holdFault(t, "${1/(/${/", 9)
	holdFault(t, "${1/(/b/gi}$", 3)
	holdFault(t, "${1/(/b/}\\", 3)
	holdFault(t, "${1:${2/(/b/}", 7)
	holdFault(t, "${1:${2/(/b/}$-}", 7)
	holdFault(t, "${1:$-${2/(/b/}}", 5)
	holdFault(t, "${1/(/b/}${2/)/b/}", 3)
	holdDeep(t, strings.Repeat("${1:", 9)+"${1/(/b/}", 36)
	holdFault(t, strings.Repeat("${1:", 8)+"${1/(/b/}", 35)
	holdFault(t, strings.Repeat("${1:", 8)+"${1/(/b/}${1:$1", 35)
	holdFault(t, strings.Repeat("${1:", 8)+"${1/(/b/", 40)
}

func TestTooManyRunesComeFirst(t *testing.T) {
	for s := range faults() {
		n := api.MaxSnip + 1 - len([]rune(s))
		holdError(t, append([]rune(s), make([]rune, n)...), 0, api.ErrFull)
		holdError(t, append(make([]rune, n), []rune(s)...), 0, api.ErrFull)
	}
}

// Nothing is said of the number of runes where a text cannot continue.
func TestFaultsOfLongTexts(t *testing.T) {
	for s, at := range faults() {
		n := api.MaxSnip - len([]rune(s))
		holdFault(t, strings.Repeat("a", n)+s, n+at)
	}
	holdFault(t, strings.Repeat("a", api.MaxSnip-1)+"$", api.MaxSnip)
	holdFault(t, strings.Repeat("a", api.MaxSnip-1)+"\\", api.MaxSnip)
	holdFault(t, "${1:"+strings.Repeat("a", api.MaxSnip-4), api.MaxSnip)
	holdFault(t, "${1|"+strings.Repeat("}", api.MaxSnip-4), api.MaxSnip)
	holdFault(t, "${1/"+strings.Repeat("}", api.MaxSnip-4), api.MaxSnip)
	holdError(t, append(make([]rune, api.MaxSnip-1), -1), api.MaxSnip-1, api.ErrForm)
}

// What Check returns for a transform decides, whatever its error is.
func TestEachErrorOfCheck(t *testing.T) {
	seen := map[api.Errno]int{}
	patterns := []string{"", "a", "(", "\\q", strings.Repeat("a", 60), strings.Repeat("a", 61), strings.Repeat("(", 8) + strings.Repeat(")", 8), strings.Repeat("(", 9) + strings.Repeat(")", 9), strings.Repeat("()", 9), strings.Repeat("()", 10), "((a{9}){9}){4}", "((a{9}){9}){9}"}
	formats := []string{"", "$1", "$9", "$10", "$", "${1:/upcase}", "${1:/}", "\\n", strings.Repeat("a", 300)}
	for _, p := range patterns {
		for _, f := range formats {
			x := transform.Transform{Pattern: []rune(p), Format: []rune(f)}
			s := "${7/" + p + "/" + f + "/}"
			e := transform.Check(x)
			seen[e]++
			if e == api.OK {
				holdSame(t, s, turned(stop(7), p, f, ""))
			} else {
				holdFault(t, s, 3)
			}
			// It cannot be told from its beginning.
			for _, end := range []string{"}", "/}"} {
				cut := strings.TrimSuffix(s, end)
				holdFault(t, cut, len(cut))
			}
		}
	}
	for _, e := range []api.Errno{api.OK, api.ErrForm, api.ErrFull, api.ErrDeep} {
		if seen[e] == 0 {
			t.Errorf("no transform with %d", e)
		}
	}
}
