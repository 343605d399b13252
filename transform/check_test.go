package transform

import (
	"math"
	"slices"
	"strings"
	"testing"

	"stylus/api"
)

// holdError holds that a transform has an error, which Apply returns as well,
// without a text.
func holdError(t *testing.T, p, f []rune, want api.Errno) {
	t.Helper()
	for _, x := range optioned(p, f) {
		if e := Check(x); e != want {
			t.Errorf("Check(%q, %q): %d, want %d", string(p), string(f), e, want)
		}
		for _, s := range [][]rune{nil, {}, []rune("aab"), slices.Repeat([]rune("ab"), api.MaxText)} {
			if got, e := Apply(x, s); len(got) != 0 || e != want {
				t.Errorf("Apply(%q, %q): %d runes, %d, want %d", string(p), string(f), len(got), e, want)
			}
		}
	}
}

// holdRight holds that a transform has no error.
func holdRight(t *testing.T, p, f []rune) {
	t.Helper()
	for _, x := range optioned(p, f) {
		if e := Check(x); e != api.OK {
			t.Errorf("Check(%q, %q): %d", string(p), string(f), e)
		}
		if _, e := Apply(x, []rune("aab")); e != api.OK {
			t.Errorf("Apply(%q, %q): %d", string(p), string(f), e)
		}
	}
}

// optioned returns the four transforms of a pattern and a format.
func optioned(p, f []rune) []Transform {
	return []Transform{{p, f, false, false}, {p, f, true, false}, {p, f, false, true}, {p, f, true, true}}
}

// text is a pattern or a format with the error that it has.
type text struct {
	runes []rune
	e     api.Errno
}

func wrong(s string, e api.Errno) text {
	return text{[]rune(s), e}
}

// unparsed are patterns for which pattern.Parse returns an error.
func unparsed() []text {
	l := []text{
		wrong("(", api.ErrForm), wrong(")", api.ErrForm), wrong("a)", api.ErrForm), wrong("*", api.ErrForm), wrong("[", api.ErrForm), wrong("[b-a]", api.ErrForm), wrong("a{2,1}", api.ErrForm), wrong("\\", api.ErrForm), wrong("\\q", api.ErrForm), wrong("^*", api.ErrForm),
		wrong("a|(b", api.ErrForm), wrong("(?a)", api.ErrForm), wrong(strings.Repeat("a", 59)+")", api.ErrForm),
		wrong(strings.Repeat("a", 61), api.ErrFull), wrong(strings.Repeat("(", 61), api.ErrFull), wrong(strings.Repeat("a", 5000), api.ErrFull), wrong(strings.Repeat("()", 10), api.ErrFull), wrong("a(((((((()))))))))()()(", api.ErrForm), wrong("((((((()))))))()()(", api.ErrFull),
		wrong("(((((((((", api.ErrDeep), wrong(strings.Repeat("(?:", 8)+"(a)"+strings.Repeat(")", 8), api.ErrDeep),
	}
	for _, below := range []rune{-1, -'a', math.MinInt32} {
		l = append(l, text{[]rune{below}, api.ErrForm}, text{[]rune{'a', below}, api.ErrForm}, text{[]rune{'[', below, ']'}, api.ErrForm}, text{[]rune{'\\', below}, api.ErrForm}, text{append(make([]rune, 60), below), api.ErrFull})
	}
	return l
}

// uncompiled are patterns for which pike.Compile returns ErrFull.
func uncompiled() []text {
	return []text{
		wrong("((a{9}){9}){9}", api.ErrFull),
		wrong("(?:(?:(?:a{9}){9}){9}){9}", api.ErrFull),
		wrong("(?:(?:a{9}){9}){4}(?:a{9}){8}aa", api.ErrFull),
		wrong("(?:(?:a|b){9,}){9}(?:(?:a|b){9}){2}", api.ErrFull),
		wrong("(?:(?:(?:[a-c]*){9}){9}){2}", api.ErrFull),
	}
}

// unfilled are formats for which format.Parse returns an error.
func unfilled() []text {
	l := []text{
		wrong("$", api.ErrForm), wrong("a$", api.ErrForm), wrong("\\", api.ErrForm), wrong("$10", api.ErrForm), wrong("${1", api.ErrForm), wrong("${1:/up}", api.ErrForm), wrong("${1:?a}", api.ErrForm), wrong("${", api.ErrForm), wrong("$a", api.ErrForm), wrong(strings.Repeat("a", 399)+"$", api.ErrForm),
		wrong(strings.Repeat("a", 401), api.ErrFull), wrong(strings.Repeat("$", 401), api.ErrFull), wrong(strings.Repeat("a", 5000), api.ErrFull),
	}
	for _, below := range []rune{-1, -'a', math.MinInt32} {
		l = append(l, text{[]rune{below}, api.ErrForm}, text{[]rune{'a', below}, api.ErrForm}, text{[]rune{'$', below}, api.ErrForm}, text{[]rune{'\\', below}, api.ErrForm}, text{append(make([]rune, 400), below), api.ErrFull})
	}
	return l
}

// rightPatterns are patterns of all kinds of parts, up to what the limits admit.
func rightPatterns() []text {
	return []text{
		{nil, api.OK}, {[]rune{}, api.OK}, wrong("a", api.OK), wrong("(a*)(b|c)", api.OK), wrong("^[^a-c]+?$|\\w", api.OK), wrong("()()()()()()()()()", api.OK),
		wrong(strings.Repeat("a", 60), api.OK), wrong(strings.Repeat("|", 60), api.OK), wrong("((((((((a))))))))", api.OK),
		wrong("(?:(?:a{9}){9}){4}(?:a{9}){8}a", api.OK), // 400 instructions
		{[]rune{1114112, math.MaxInt32, 55296, 0}, api.OK},
	}
}

func rightFormats() []text {
	return []text{
		{nil, api.OK}, {[]rune{}, api.OK}, wrong("x", api.OK), wrong("a${1:/upcase}${2:+x}", api.OK), wrong("$0$9${08:?a:b}${7:c}\\n", api.OK),
		wrong(strings.Repeat("a", 400), api.OK), wrong(strings.Repeat("$9", 200), api.OK), {[]rune{1114112, math.MaxInt32, 55296, 0}, api.OK},
	}
}

// P8.1, and P8.2 for errors

func TestNoError(t *testing.T) {
	for _, p := range rightPatterns() {
		for _, f := range rightFormats() {
			holdRight(t, p.runes, f.runes)
		}
	}
}

func TestEachErrorAlone(t *testing.T) {
	for _, f := range rightFormats() {
		for _, p := range slices.Concat(unparsed(), uncompiled()) {
			holdError(t, p.runes, f.runes, p.e)
		}
	}
	for _, p := range rightPatterns() {
		for _, f := range unfilled() {
			holdError(t, p.runes, f.runes, f.e)
		}
	}
}

// Whatever is amiss with the format, the error is that of the pattern.
func TestErrorsOfPatternComeFirst(t *testing.T) {
	pairs := map[[2]api.Errno]int{}
	for _, p := range slices.Concat(unparsed(), uncompiled()) {
		for _, f := range unfilled() {
			holdError(t, p.runes, f.runes, p.e)
			pairs[[2]api.Errno{p.e, f.e}]++
		}
	}
	for _, e := range []api.Errno{api.ErrForm, api.ErrFull, api.ErrDeep} {
		for _, f := range []api.Errno{api.ErrForm, api.ErrFull} {
			if pairs[[2]api.Errno{e, f}] == 0 {
				t.Errorf("no pair of %d and %d", e, f)
			}
		}
	}
}

// A pattern that is none is not compiled, however many instructions what is
// right of it has.
func TestParsingComesBeforeCompiling(t *testing.T) {
	for _, f := range slices.Concat(rightFormats(), unfilled()) {
		for _, p := range uncompiled() {
			holdError(t, slices.Concat(p.runes, []rune{')'}), f.runes, api.ErrForm)
			holdError(t, slices.Concat([]rune{'*'}, p.runes), f.runes, api.ErrForm)
			holdError(t, slices.Concat(p.runes, []rune{-1}), f.runes, api.ErrForm)
			holdError(t, slices.Concat([]rune("((((((((("), p.runes), f.runes, api.ErrDeep)
			holdError(t, slices.Concat(p.runes, make([]rune, 61)), f.runes, api.ErrFull)
		}
	}
}

// The limits are those of the pattern and the format, each by itself.
func TestLimits(t *testing.T) {
	for n := range 430 {
		p, f, e := slices.Repeat([]rune{'a'}, n), slices.Repeat([]rune{'b'}, n), api.OK
		if n > 400 {
			e = api.ErrFull
		}
		if got := Check(Transform{Format: f}); got != e {
			t.Errorf("format of %d runes: %d, want %d", n, got, e)
		}
		if n > 60 {
			e = api.ErrFull
		}
		if got := Check(Transform{Pattern: p}); got != e {
			t.Errorf("pattern of %d runes: %d, want %d", n, got, e)
		}
	}
	long := "(?:(?:a{9}){9}){4}(?:a{9}){8}"
	for more, want := range []api.Errno{api.OK, api.OK, api.ErrFull, api.ErrFull} {
		if got := Check(Transform{Pattern: []rune(long + strings.Repeat("a", more))}); got != want {
			t.Errorf("%d instructions: %d, want %d", 399+more, got, want)
		}
	}
}

// What is a fault in the one may be right in the other.
func TestPatternAndFormatAreNotTheSame(t *testing.T) {
	for _, s := range []string{"$", "a$", "$10", "\\\\|$"} {
		holdRight(t, []rune(s), nil)
		holdError(t, nil, []rune(s), api.ErrForm)
	}
	for _, s := range []string{"(", ")", "*", "\\q", "[", strings.Repeat("()", 10), "a${1:?b:c}"} {
		holdRight(t, nil, []rune(s))
	}
	holdError(t, []rune("a${1:?b:c}"), nil, api.ErrForm)
	holdRight(t, []rune("$"), []rune("("))
	holdError(t, []rune("("), []rune("$"), api.ErrForm)
}
