package format

import (
	"math"
	"slices"
	"strings"
	"testing"

	"stylus/api"
)

// holdError holds that Parse returns an error with this place, and no items.
func holdError(t *testing.T, s []rune, at int, e api.Errno) {
	t.Helper()
	if l, a, errno := Parse(s); len(l) != 0 || a != at || errno != e {
		t.Errorf("Parse(%q %d): %v, %d, %d, want %d, %d", string(s), s, l, a, errno, at, e)
	}
}

// holdFault holds that a text is no format from a place on.
func holdFault(t *testing.T, s string, at int) {
	t.Helper()
	holdError(t, []rune(s), at, api.ErrForm)
}

func holdFull(t *testing.T, s []rune) {
	t.Helper()
	holdError(t, s, 0, api.ErrFull)
}

// faults are texts with the place at which they cannot continue.
func faults() map[string]int {
	return map[string]int{
		// What follows a $.
		"$": 1, "$a": 1, "$_": 1, "$ ": 1, "$$": 1, "$$1": 1, "$}": 1, "$:": 1, "$/": 1, "$-": 1, "$\\": 1, "$\\1": 1, "$\\{1}": 1, "$é": 1, "$٠": 1, "$²": 1, "$(1)": 1, "$-1": 1, "$n": 1,
		"ab$": 3, "ab$c": 3, "\\$$": 3, "\\\\$": 3, "$1$": 3, "$01$": 4, "${1}$": 5, "}$}": 2,

		// What follows ${.
		"${": 2, "${}": 2, "${a}": 2, "${:": 2, "${:a}": 2, "${/": 2, "${ 1}": 2, "${-1}": 2, "${+1}": 2, "${$1}": 2, "${{1}}": 2, "${\\1}": 2, "${٠}": 2, "${²": 2, "${n": 2, "${:/upcase}": 2,

		// Numbers above 9.
		"$10": 1, "$11": 1, "$19": 1, "$20": 1, "$90": 1, "$99": 1, "$100": 1, "$1000": 1, "${10": 2, "${10}": 2, "${12}": 2, "${99}": 2, "${100}": 2, "${10:a}": 2, "${10:/upcase}": 2, "$1$10": 3, "$01$10": 4, "$0$99": 3,

		// What follows the number.
		"${1": 3, "${0": 3, "${01": 4, "${1;}": 3, "${1a}": 3, "${1 }": 3, "${1/upcase}": 3, "${1/": 3, "${1+a}": 3, "${1-a}": 3, "${1?a:b}": 3, "${1$": 3, "${1{": 3, "${1\\}": 3, "${1\\:": 3, "${1;": 3, "${1٠}": 3,
		"${01;": 4, "${001}": 4, "${000": 4, "${010}": 4, "${09a}": 4, "${1|a|}": 3, "${1,": 3,

		// What follows the :.
		"${1:": 4, "${01:": 5, "${1:/": 5, "${1:/}": 5, "${1:/x}": 5, "${1:/ upcase}": 5, "${1:/Upcase}": 5, "${1:/UPCASE}": 5, "${1://": 5, "${1:/+": 5, "${1:/:": 5, "${1:/\\upcase}": 5, "${1:/lowercase}": 5, "${1:/pascalcase}": 5, "${1:/camelcase}": 7,
		"${1:/u": 6, "${1:/u}": 6, "${1:/up}": 7, "${1:/upc}": 8, "${1:/upca}": 9, "${1:/upcas}": 10, "${1:/upcas": 10, "${1:/upcase": 11, "${1:/upcasee}": 11, "${1:/upcase }": 11, "${1:/upcase:": 11, "${1:/upcase/": 11, "${1:/upcase\\}": 11, "${1:/upper}": 7, "${1:/uppercase}": 7,
		"${1:/d}": 6, "${1:/do": 7, "${1:/down}": 9, "${1:/downcas}": 12, "${1:/downcase": 13, "${1:/downcases}": 13, "${1:/dupcase}": 6,
		"${1:/c}": 6, "${1:/cap}": 8, "${1:/capital}": 12, "${1:/capitaliz}": 14, "${1:/capitalise}": 13, "${1:/capitalize": 15, "${1:/capitalized}": 15,

		// Texts that do not end.
		"${1:+": 5, "${1:+a": 6, "${1:+a:": 7, "${1:+\\}": 7, "${1:+a\\}": 8, "${1:+{": 6, "${1:+$1": 7,
		"${1:-": 5, "${1:-a": 6, "${1:-\\}": 7, "${1:--": 6, "${1:a": 5, "${1:\\}": 6, "${1::": 5, "${1:a\\}b": 8, "${1: ": 5, "${1:$": 5, "${1:{": 5,
		"${1:?": 5, "${1:?}": 6, "${1:?a": 6, "${1:?a}": 7, "${1:?a}}": 8, "${1:?a\\:b}": 10, "${1:?\\:": 7, "${1:?\\:}": 8, "${1:?:": 6, "${1:?a:": 7, "${1:?a:b": 8, "${1:?a:b\\}": 10, "${1:?a:b:c": 10, "${1:?a:b:": 9, "${1:?::": 7,

		// A \ ahead of nothing.
		"\\": 1, "a\\": 2, "\\\\\\": 3, "$1\\": 3, "${1}\\": 5, "\\n\\": 3, "${1:+\\": 6, "${1:+a\\": 7, "${1:+\\\\\\": 8, "${1:?\\": 6, "${1:?a\\": 7, "${1:?a:\\": 8, "${1:?a:b\\": 9, "${1:-\\": 6, "${1:\\": 5, "${1:a\\": 6,
	}
}

// P7.1

func TestFaults(t *testing.T) {
	for s, at := range faults() {
		holdFault(t, s, at)
	}
}

// What follows a fault is not read, unless the fault is that the text has ended.
func TestFaultsComeBeforeWhatFollows(t *testing.T) {
	for s, at := range faults() {
		if at == len([]rune(s)) {
			continue
		}
		for _, more := range []string{"}", ":", "$", "\\", "0", "a", "$10", strings.Repeat("a", 300)} {
			holdFault(t, s+more, at)
		}
		holdError(t, append([]rune(s), -1), at, api.ErrForm)
	}
}

// Whatever is right ahead of a fault moves its place, and no more.
func TestFaultsBehindWhatIsRight(t *testing.T) {
	for s, at := range faults() {
		for _, ahead := range []string{"a", "ab}", "\\n", "\\$", "\\\\", "$1", "$01", "$012", "${1}"} {
			holdFault(t, ahead+s, len([]rune(ahead))+at)
		}
		for _, f := range forms() {
			ahead := "${9" + f.s
			holdFault(t, ahead+s, len([]rune(ahead))+at)
		}
	}
}

func TestTextsCutOff(t *testing.T) {
	for _, f := range append(forms(), sample{s: ":?a\\:b}c:d\\}}"}, sample{s: ":+\\n$}"}, sample{s: ":a\\\\b}"}) {
		for _, digits := range []string{"1", "01"} {
			s := "${" + digits + f.s
			for i := 1; i < len(s); i++ {
				holdFault(t, s[:i], i)
				holdFault(t, "x$2"+s[:i], 3+i)
			}
		}
	}
}

// rightFormats are formats with all that a format may consist of.
func rightFormats() []string {
	l := []string{"abc", "\\a\\n\\$", "$1", "$01", "$1a$2", "a}b", "${1:?a}b:c:d}", "${1:+a\\}b}", "${1:?\\::\\}}", "${1:\\+a}", "${1:-\\-a}", "${1:$}"}
	for _, f := range forms() {
		l = append(l, "${1"+f.s, "${01"+f.s)
	}
	return l
}

// A rune below 0 cannot occur anywhere.
func TestRunesBelowZero(t *testing.T) {
	for _, below := range []rune{-1, -2, -7, -('a' - 'A'), math.MinInt32 + 1, math.MinInt32} {
		holdError(t, []rune{below}, 0, api.ErrForm)
		for _, right := range rightFormats() {
			s := []rune(right)
			for i := range len(s) + 1 {
				holdError(t, slices.Insert(slices.Clone(s), i, below), i, api.ErrForm)
				holdError(t, append(slices.Clone(s[:i]), below), i, api.ErrForm)
			}
		}
	}
}

func TestRunesBelowZeroAmongOtherFaults(t *testing.T) {
	for s, at := range faults() {
		holdError(t, append([]rune{-5}, []rune(s)...), 0, api.ErrForm)
		holdError(t, append([]rune{'a', '$', '1', -5}, []rune(s)...), 3, api.ErrForm)
		holdError(t, append([]rune(s), -5), at, api.ErrForm)
	}
	// A number above 9 has its place ahead of the rune behind it.
	holdError(t, []rune{'$', '1', '0', -1}, 1, api.ErrForm)
	holdError(t, []rune{'$', '{', '1', '0', -1}, 2, api.ErrForm)
	holdError(t, []rune{'$', '{', '1', -1, '0'}, 3, api.ErrForm)
}

func TestRunesThatAreLikeOthers(t *testing.T) {
	// These are the runes that have a meaning, less 2^16 or with all bits turned.
	for _, r := range "${}\\:/+?-0189nudc" {
		for _, below := range []rune{^r, -r, r - 1<<16, r + math.MinInt32} {
			holdError(t, []rune{'a', below}, 1, api.ErrForm)
			holdError(t, []rune{'\\', below}, 1, api.ErrForm)
			holdError(t, []rune{'$', below, '}'}, 1, api.ErrForm)
			holdError(t, []rune{'$', '1', below}, 2, api.ErrForm)
			holdError(t, []rune{'$', '{', '1', below, '}'}, 3, api.ErrForm)
			holdError(t, []rune{'$', '{', '1', ':', below, '}'}, 4, api.ErrForm)
			for _, f := range textForms() {
				holdError(t, append([]rune(f.ahead), 'a', below, '}'), len(f.ahead)+1, api.ErrForm)
				holdError(t, append([]rune(f.ahead), '\\', below, '}'), len(f.ahead)+1, api.ErrForm)
			}
		}
		// Beyond what is valid a rune is as any other one.
		above := r + 1<<24
		holdRunes(t, []rune{'a', above}, Item{Kind: Text, Yes: []rune{'a', above}})
		holdRunes(t, []rune{'\\', above}, Item{Kind: Text, Yes: []rune{above}})
		holdRunes(t, []rune{'$', '1', above}, item(Plain, 1), Item{Kind: Text, Yes: []rune{above}})
		holdError(t, []rune{'$', above, '}'}, 1, api.ErrForm)
		holdError(t, []rune{'$', '{', above, '}'}, 2, api.ErrForm)
		holdError(t, []rune{'$', '{', '1', above, '}'}, 3, api.ErrForm)
		holdError(t, []rune{'$', '{', '1', ':', '/', above, '}'}, 5, api.ErrForm)
		for _, f := range textForms() {
			holdRunes(t, slices.Concat([]rune(f.ahead), []rune{above, '\\', above}, []rune(f.behind)), f.item([]rune{above, above}))
		}
	}
}

func TestTooManyRunesComeFirst(t *testing.T) {
	for s := range faults() {
		holdFull(t, append([]rune(s), make([]rune, api.MaxSnip+1-len([]rune(s)))...))
		holdFull(t, append(make([]rune, api.MaxSnip+1-len([]rune(s))), []rune(s)...))
	}
	for _, r := range []rune{'$', '\\', -1, math.MinInt32} {
		holdFull(t, slices.Repeat([]rune{r}, api.MaxSnip+1))
	}
}

// Nothing is said of the number of runes where a text cannot continue.
func TestFaultsOfLongTexts(t *testing.T) {
	for s, at := range faults() {
		n := api.MaxSnip - len([]rune(s))
		holdFault(t, strings.Repeat("a", n)+s, n+at)
	}
	holdFault(t, strings.Repeat("a", api.MaxSnip-1)+"$", api.MaxSnip)
	holdFault(t, strings.Repeat("a", api.MaxSnip-1)+"\\", api.MaxSnip)
	holdFault(t, "${1:"+strings.Repeat("a", api.MaxSnip-4), api.MaxSnip)
	holdFault(t, "${1:?"+strings.Repeat("}", api.MaxSnip-5), api.MaxSnip)
	holdFault(t, strings.Repeat("a", api.MaxSnip-3)+"$10", api.MaxSnip-2)
	holdError(t, append(make([]rune, api.MaxSnip-1), -1), api.MaxSnip-1, api.ErrForm)
}
