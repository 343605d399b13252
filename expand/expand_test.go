package expand

import (
	"fmt"
	"slices"
	"strings"
	"testing"

	"stylus/api"
	"stylus/snippet"
)

// sample has the expansion of a snippet, and its fields as told tells them.
type sample struct{ s, text, fields string }

// pairs returns values: a name, its text, a name, its text ..
func pairs(l ...string) []Value {
	var values []Value
	for ; len(l) > 0; l = l[2:] {
		values = append(values, Value{[]rune(l[0]), []rune(l[1])})
	}
	return values
}

// told tells fields: of each the number, with a * if it is a primary, the span,
// the field in which it is, its choices and its transform.
func told(l []Field) string {
	var all []string
	for _, x := range l {
		s := fmt.Sprint(x.N)
		if x.Primary {
			s += "*"
		}
		s += fmt.Sprintf(" %d-%d", x.Span.From, x.Span.To)
		if x.Up != -1 {
			s += fmt.Sprintf(" in %d", x.Up)
		}
		if len(x.Choices) > 0 {
			s += " |" + joined(x.Choices) + "|"
		}
		if x.Turn {
			s += fmt.Sprintf(" /%s/%s/", string(x.T.Pattern), string(x.T.Format))
		}
		if x.T.All {
			s += "g"
		}
		if x.T.Fold {
			s += "i"
		}
		all = append(all, s)
	}
	return strings.Join(all, ", ")
}

func joined(l [][]rune) string {
	var all []string
	for _, c := range l {
		all = append(all, string(c))
	}
	return strings.Join(all, ",")
}

func parsed(t *testing.T, s string) []snippet.Node {
	t.Helper()
	l, at, e := snippet.Parse([]rune(s))
	if e != api.OK {
		t.Fatalf("Parse(%q): %d at %d", s, e, at)
	}
	return l
}

// hold holds the expansion of parts and their fields.
func hold(t *testing.T, l []snippet.Node, values []Value, want []rune, fields string) {
	t.Helper()
	text, f, e := Lay(l, values)
	if e != api.OK || !slices.Equal(text, want) || told(f) != fields {
		t.Errorf("Lay(%q): %q, %s, %d, want %q, %s", string(snippet.Print(l)), string(text), told(f), e, string(want), fields)
	}
	holdLaws(t, l, text, f)
}

func holdSamples(t *testing.T, values []Value, l ...sample) {
	t.Helper()
	for _, x := range l {
		hold(t, parsed(t, x.s), values, []rune(x.text), x.fields)
	}
}

// holdText holds the expansion alone.
func holdText(t *testing.T, s string, values []Value, want string) {
	t.Helper()
	l := parsed(t, s)
	text, f, e := Lay(l, values)
	if e != api.OK || string(text) != want {
		t.Errorf("Lay(%q): %q, %d, want %q", s, string(text), e, want)
	}
	holdLaws(t, l, text, f)
}

// holdError holds an error, beside which there is nothing else.
func holdError(t *testing.T, s string, values []Value, want api.Errno) {
	t.Helper()
	text, f, e := Lay(parsed(t, s), values)
	if e != want || len(text) != 0 || len(f) != 0 {
		t.Errorf("Lay(%q): %q, %s, %d, want %d", s, string(text), told(f), e, want)
	}
}

// holdLaws holds what follows for all fields.
func holdLaws(t *testing.T, l []snippet.Node, text []rune, fields []Field) {
	t.Helper()
	primaries := map[int][]rune{}
	for i, x := range fields {
		if x.Span.From < 0 || x.Span.From > x.Span.To || x.Span.To > len(text) || x.Up < -1 || x.Up >= i {
			t.Errorf("Lay(%q): field %d of %s in %q", string(snippet.Print(l)), i, told(fields), string(text))
			return
		}
		for j, y := range fields[:i] {
			in := y.Span.From <= x.Span.From && x.Span.To <= y.Span.To
			if up := isUp(fields, j, i); up && !in || !up && y.Span.To > x.Span.From {
				t.Errorf("Lay(%q): fields %d and %d of %s", string(snippet.Print(l)), j, i, told(fields))
			}
		}
		if _, is := primaries[x.N]; x.Primary && is {
			t.Errorf("Lay(%q): two primaries of %d in %s", string(snippet.Print(l)), x.N, told(fields))
		}
		if x.Primary {
			primaries[x.N] = text[x.Span.From:x.Span.To]
		}
	}
	for i, x := range fields {
		first, is := primaries[x.N]
		if !is || !x.Turn && !slices.Equal(first, text[x.Span.From:x.Span.To]) {
			t.Errorf("Lay(%q): field %d of %s in %q", string(snippet.Print(l)), i, told(fields), string(text))
		}
	}
}

// isUp reports whether a field is above another one.
func isUp(l []Field, up, i int) bool {
	for i = l[i].Up; i > up; i = l[i].Up {
	}
	return i == up
}

// P10.1

func TestExample(t *testing.T) {
	holdSamples(t, nil, sample{"${1:a}-$1", "a-a", "1* 0-1, 1 2-3, 0* 3-3"})
}

func TestNoParts(t *testing.T) {
	for _, values := range [][]Value{nil, {}, {{}}, pairs("X", "x"), pairs("", "x")} {
		hold(t, nil, values, nil, "0* 0-0")
		hold(t, []snippet.Node{}, values, []rune{}, "0* 0-0")
	}
}

func TestTexts(t *testing.T) {
	holdSamples(t, pairs("a", "x", "abc", "x"),
		sample{"a", "a", "0* 1-1"},
		sample{"abc", "abc", "0* 3-3"},
		sample{`\$a\}\\{`, `$a}\{`, "0* 5-5"},
		sample{"a\nb", "a\nb", "0* 3-3"},
		sample{"é\U0001F600", "é\U0001F600", "0* 2-2"},
	)
}

func TestVariables(t *testing.T) {
	holdSamples(t, pairs("X", "xy", "X", "no", "E", "", "E", "no", "XX", "long", "x_1", "l\nn", "Xa", ""),
		// Set: of several the first one counts, even if it is empty.
		sample{"$X", "xy", "0* 2-2"},
		sample{"a${X}b", "axyb", "0* 4-4"},
		sample{"$X$X", "xyxy", "0* 4-4"},
		sample{"$E", "", "0* 0-0"},
		sample{"a${E}b", "ab", "0* 2-2"},
		sample{"$XX-$x_1", "long-l\nn", "0* 8-8"},
		sample{"${X}X", "xyX", "0* 3-3"},
		// Not set.
		sample{"$Y", "", "0* 0-0"},
		sample{"a${Y}b", "ab", "0* 2-2"},
		sample{"a${Y:}b", "ab", "0* 2-2"},
		sample{"$x$XXX$x_$x_11$e$_X$Xb$a", "", "0* 0-0"},
		// With Subs.
		sample{"${X:q}", "xy", "0* 2-2"},
		sample{"${E:q}", "", "0* 0-0"},
		sample{"${Xa:q}", "", "0* 0-0"},
		sample{"${Y:q}", "q", "0* 1-1"},
		sample{"a${Y:qr}b", "aqrb", "0* 4-4"},
		sample{"${Y:a$X}", "axy", "0* 3-3"},
		sample{"${Y:${X:q}-${Z:r}}", "xy-r", "0* 4-4"},
		sample{"${Y:${Y:${Y}a}b}", "ab", "0* 2-2"},
		sample{"${X:${Y:q}}", "xy", "0* 2-2"},
	)
}

func TestFieldsInVariables(t *testing.T) {
	holdSamples(t, pairs("X", "xy", "E", ""),
		sample{"${Y:${1:z}}", "z", "1* 0-1, 0* 1-1"},
		sample{"a${Y:$1}b", "ab", "1* 1-1, 0* 2-2"},
		sample{"${Y:a${1:b}c}$1", "abcb", "1* 1-2, 1 3-4, 0* 4-4"},
		sample{"${Y:${Z:a$1}b}", "ab", "1* 1-1, 0* 2-2"},
		sample{"${Y:$1$2}$3", "", "1* 0-0, 2* 0-0, 3* 0-0, 0* 0-0"},
		sample{"${Y:${1|a,b|}c}$1", "aca", "1* 0-1 |a,b|, 1 2-3, 0* 3-3"},
		sample{"${Y:${1/^/-/}}${1:a}", "-aa", "1 0-2 /^/-/, 1* 2-3, 0* 3-3"},
		sample{"${Y:a$0}b", "ab", "0* 1-1"},
		// Its first one with Subs is in a variable.
		sample{"$1${Y:${1:a}}${1:b}", "aaa", "1 0-1, 1* 1-2, 1 2-3, 0* 3-3"},
		sample{"$1${X:${1:a}}${1:b}", "bxyb", "1 0-1, 1* 3-4, 0* 4-4"},
		sample{"${X:${1|a|}}${1:b}", "xyb", "1* 2-3, 0* 3-3"},
		// What is in a variable that is set is not visited.
		sample{"${X:${1:z}}", "xy", "0* 2-2"},
		sample{"${X:$1}$1", "xy", "1* 2-2, 0* 2-2"},
		sample{"${E:$1${2|a|}${3/^/x/}$0}", "", "0* 0-0"},
		sample{"${X:$0}a", "xya", "0* 3-3"},
		sample{"${Y:${X:$1}$2}", "xy", "2* 2-2, 0* 2-2"},
		sample{"${X:${Y:$1}$2}", "xy", "0* 2-2"},
		// Variables in fields.
		sample{"${1:$X}", "xy", "1* 0-2, 0* 2-2"},
		sample{"${1:$Y}a$1", "a", "1* 0-0, 1 1-1, 0* 1-1"},
		sample{"${1:${Y:$2}}", "", "1* 0-0, 2* 0-0 in 0, 0* 0-0"},
		sample{"${1:${Y:a${2:b}${Z:$3c}}}", "abc", "1* 0-3, 2* 1-2 in 0, 3* 2-2 in 0, 0* 3-3"},
	)
}

func TestTransformedVariables(t *testing.T) {
	holdSamples(t, pairs("X", "xyx", "E", ""),
		sample{"${X/x/-/}", "-yx", "0* 3-3"},
		sample{"${X/x/-/g}", "-y-", "0* 3-3"},
		sample{"${X/X/-/}", "xyx", "0* 3-3"},
		sample{"${X/X/-/gi}", "-y-", "0* 3-3"},
		sample{"${X/(.)y/$1$1${1:/upcase}/}a", "xxXxa", "0* 5-5"},
		sample{"a${X/.*//}b", "ab", "0* 2-2"},
		sample{"${E/^/b/}", "b", "0* 1-1"},
		sample{"${E/a/b/}", "", "0* 0-0"},
		sample{"${1:${X/x/-/}}$1", "-yx-yx", "1* 0-3, 1 3-6, 0* 6-6"},
		// What is not set is not transformed.
		sample{"${Y/^/b/}", "", "0* 0-0"},
		sample{"${Y/a/b/}", "", "0* 0-0"},
		sample{"${X}${X/x/-/}$X", "xyx-yxxyx", "0* 9-9"},
	)
}

func TestStops(t *testing.T) {
	holdSamples(t, nil,
		sample{"$1", "", "1* 0-0, 0* 0-0"},
		sample{"${1}", "", "1* 0-0, 0* 0-0"},
		sample{"${1:}", "", "1* 0-0, 0* 0-0"},
		sample{"a$1b", "ab", "1* 1-1, 0* 2-2"},
		sample{"$1$1", "", "1* 0-0, 1 0-0, 0* 0-0"},
		sample{"a$1b$1c$1", "abc", "1* 1-1, 1 2-2, 1 3-3, 0* 3-3"},
		sample{"$2$1", "", "2* 0-0, 1* 0-0, 0* 0-0"},
		sample{"${2:b}${1:a}", "ba", "2* 0-1, 1* 1-2, 0* 2-2"},
		// Ahead of and behind one with Subs.
		sample{"$1-${1:a}", "a-a", "1 0-1, 1* 2-3, 0* 3-3"},
		sample{"$1${1:ab}$1", "ababab", "1 0-2, 1* 2-4, 1 4-6, 0* 6-6"},
		sample{"${1:}${1:a}", "aa", "1 0-1, 1* 1-2, 0* 2-2"},
		sample{"$1$1${1:a}$1", "aaaa", "1 0-1, 1 1-2, 1* 2-3, 1 3-4, 0* 4-4"},
		sample{"$1${1:a${2:b}}$0", "abab", "1 0-2, 1* 2-4, 2* 3-4 in 1, 0* 4-4"},
		// In one with Subs.
		sample{"${1:a${2:b}}$2", "abb", "1* 0-2, 2* 1-2 in 0, 2 2-3, 0* 3-3"},
		sample{"${1:a$2}${2:b}", "abb", "1* 0-2, 2 1-2 in 0, 2* 2-3, 0* 3-3"},
		sample{"$2${1:a${2:b}}$1", "babab", "2 0-1, 1* 1-3, 2* 2-3 in 1, 1 3-5, 0* 5-5"},
		sample{"${1:${2:a}${2:b}}", "aa", "1* 0-2, 2* 0-1 in 0, 2 1-2 in 0, 0* 2-2"},
		sample{"${1:${2:${3:a}b}c}", "abc", "1* 0-3, 2* 0-2 in 0, 3* 0-1 in 1, 0* 3-3"},
		// The Subs of the first one come to nothing.
		sample{"${1:$Y}${1:a}", "", "1* 0-0, 1 0-0, 0* 0-0"},
		sample{"${1:$2}${1:a}", "", "1* 0-0, 2* 0-0 in 0, 1 0-0, 0* 0-0"},
		sample{"${1:$2}${2:a}$1", "aaa", "1* 0-1, 2 0-1 in 0, 2* 1-2, 1 2-3, 0* 3-3"},
	)
}

func TestSecondStopsWithSubs(t *testing.T) {
	holdSamples(t, pairs("X", "x"),
		sample{"${1:a}${1:b}", "aa", "1* 0-1, 1 1-2, 0* 2-2"},
		sample{"${1:a}${1:b}${1:c}", "aaa", "1* 0-1, 1 1-2, 1 2-3, 0* 3-3"},
		sample{"$1${1:a}$1${1:b}", "aaaa", "1 0-1, 1* 1-2, 1 2-3, 1 3-4, 0* 4-4"},
		// What is in them is not visited.
		sample{"${1:a}${1:b$2}$2", "aa", "1* 0-1, 1 1-2, 2* 2-2, 0* 2-2"},
		sample{"${1:a}${1:${2:b}}${2:c}", "aac", "1* 0-1, 1 1-2, 2* 2-3, 0* 3-3"},
		sample{"${1:a}${1:${2|b|}${3/^/x/}$0}$2$3", "aa", "1* 0-1, 1 1-2, 2* 2-2, 3* 2-2, 0* 2-2"},
		sample{"${1:a}${1:${1:b}}$1", "aaa", "1* 0-1, 1 1-2, 1 2-3, 0* 3-3"},
		sample{"${1:a}${1:${Y:$2$X}}", "aa", "1* 0-1, 1 1-2, 0* 2-2"},
		sample{"${2:${1:a}}${1:b$3}${2:$4}$1", "aaaa", "2* 0-1, 1* 0-1 in 0, 1 1-2, 2 2-3, 1 3-4, 0* 4-4"},
		// What is in the first one has been visited before.
		sample{"${1:${2:a}}${2:b}", "aa", "1* 0-1, 2* 0-1 in 0, 2 1-2, 0* 2-2"},
		sample{"${2:b}${1:${2:a$3}c}", "bbc", "2* 0-1, 1* 1-3, 2 1-2 in 1, 0* 3-3"},
	)
}

func TestChoices(t *testing.T) {
	holdSamples(t, nil,
		sample{"${1|a|}", "a", "1* 0-1 |a|, 0* 1-1"},
		sample{"${1|one,two|}-$1", "one-one", "1* 0-3 |one,two|, 1 4-7, 0* 7-7"},
		sample{"$1-${1|one,two|}", "one-one", "1 0-3, 1* 4-7 |one,two|, 0* 7-7"},
		sample{`${1|\,\|,$2\}|}`, ",|", "1* 0-2 |,|,$2}|, 0* 2-2"},
		// Ahead of a Stop with Subs, and behind it.
		sample{"${1|a,b|}${1:c}", "aa", "1* 0-1 |a,b|, 1 1-2, 0* 2-2"},
		sample{"${1:c}${1|a,b|}", "cc", "1* 0-1, 1 1-2 |a,b|, 0* 2-2"},
		sample{"${1|a|}${1:$2}$2", "aa", "1* 0-1 |a|, 1 1-2, 2* 2-2, 0* 2-2"},
		sample{"${2|a|}${1:b${2:c$3}}", "aba", "2* 0-1 |a|, 1* 1-3, 2 2-3 in 1, 0* 3-3"},
		sample{"${1:${2|a,b|}}$2$1", "aaa", "1* 0-1, 2* 0-1 in 0 |a,b|, 2 1-2, 1 2-3, 0* 3-3"},
		// Two of a number.
		sample{"${1|a,b|}${1|c,d,e|}", "aa", "1* 0-1 |a,b|, 1 1-2 |c,d,e|, 0* 2-2"},
		sample{"${1|a|}${2|b|}${1|b|}", "aba", "1* 0-1 |a|, 2* 1-2 |b|, 1 2-3 |b|, 0* 3-3"},
		// Choices that are empty.
		sample{"${1||}", "", "1* 0-0 ||, 0* 0-0"},
		sample{"${1|,a|}$1", "", "1* 0-0 |,a|, 1 0-0, 0* 0-0"},
		sample{"${1|a,|}$1", "aa", "1* 0-1 |a,|, 1 1-2, 0* 2-2"},
		sample{"${1|,,|}", "", "1* 0-0 |,,|, 0* 0-0"},
		sample{"${1||}${1:a}${1|b|}$1", "", "1* 0-0 ||, 1 0-0, 1 0-0 |b|, 1 0-0, 0* 0-0"},
		sample{"$1${1:$Y}${1|b|}", "", "1 0-0, 1* 0-0, 1 0-0 |b|, 0* 0-0"},
	)
}

func TestTransformedStops(t *testing.T) {
	holdSamples(t, nil,
		// All of them have Turn: the first one is not transformed.
		sample{"${1/^/x/}", "", "1* 0-0 /^/x/, 0* 0-0"},
		sample{"${1/^/x/}${1/^/y/}", "y", "1* 0-0 /^/x/, 1 0-1 /^/y/, 0* 1-1"},
		sample{"${1/a/x/}${1/^/y/}${1/$/zz/}", "yzz", "1* 0-0 /a/x/, 1 0-1 /^/y/, 1 1-3 /$/zz/, 0* 3-3"},
		// Otherwise the first one without Turn is the primary, or one with Subs or choices.
		sample{"${1/^/x/}$1", "x", "1 0-1 /^/x/, 1* 1-1, 0* 1-1"},
		sample{"$1${1/^/x/}", "x", "1* 0-0, 1 0-1 /^/x/, 0* 1-1"},
		sample{"${1/^/x/}${1/^/y/}$1$1", "xy", "1 0-1 /^/x/, 1 1-2 /^/y/, 1* 2-2, 1 2-2, 0* 2-2"},
		sample{"${1/a/b/}${1:a}", "ba", "1 0-1 /a/b/, 1* 1-2, 0* 2-2"},
		sample{"${1:a}${1/a/b/}", "ab", "1* 0-1, 1 1-2 /a/b/, 0* 2-2"},
		sample{"${1/a/b/}${1|a,c|}", "ba", "1 0-1 /a/b/, 1* 1-2 |a,c|, 0* 2-2"},
		sample{"${1/a/b/}$1${1:a}", "baa", "1 0-1 /a/b/, 1 1-2, 1* 2-3, 0* 3-3"},
		sample{"$1${1/a/b/}${1|a|}", "aba", "1 0-1, 1 1-2 /a/b/, 1* 2-3 |a|, 0* 3-3"},
		// Nothing is found, the text gets longer, or empty.
		sample{"${1:ab}${1/q/x/}", "abab", "1* 0-2, 1 2-4 /q/x/, 0* 4-4"},
		sample{"${1:ab}${1/./<$0>/g}c", "ab<a><b>c", "1* 0-2, 1 2-8 /./<$0>/g, 0* 9-9"},
		sample{"${1:ab}${1/B/$0$0/i}", "ababb", "1* 0-2, 1 2-5 /B/$0$0/i, 0* 5-5"},
		sample{"${1:ab}${1/.*//}${1/[a-b]//gi}", "ab", "1* 0-2, 1 2-2 /.*//, 1 2-2 /[a-b]//gi, 0* 2-2"},
		sample{"$1${1/q/x/}${1/q*/x/g}", "x", "1* 0-0, 1 0-0 /q/x/, 1 0-1 /q*/x/g, 0* 1-1"},
		sample{"${2|one,two|}${2/o/0/g}$2", "one0neone", "2* 0-3 |one,two|, 2 3-6 /o/0/g, 2 6-9, 0* 9-9"},
		// In other fields.
		sample{"${1:a${2/b/c/}}${2:b}$1", "acbac", "1* 0-2, 2 1-2 in 0 /b/c/, 2* 2-3, 1 3-5, 0* 5-5"},
		sample{"${1:${2/^/x/}}${1/x/${0:/upcase}/}$2", "xX", "1* 0-1, 2 0-1 in 0 /^/x/, 1 1-2 /x/${0:/upcase}/, 2* 2-2, 0* 2-2"},
		sample{"${2:${1/a/b/}}${1:aa}${2/a/c/}", "baaabc", "2* 0-2, 1 0-2 in 0 /a/b/, 1* 2-4, 2 4-6 /a/c/, 0* 6-6"},
		sample{"${1:${2/^/x/}}$1", "", "1* 0-0, 2* 0-0 in 0 /^/x/, 1 0-0, 0* 0-0"},
	)
}

func TestNumberZero(t *testing.T) {
	holdSamples(t, pairs("X", "x"),
		sample{"$0", "", "0* 0-0"},
		sample{"a$0b", "ab", "0* 1-1"},
		sample{"a${0}b$1", "ab", "0* 1-1, 1* 2-2"},
		sample{"a$0b$0", "ab", "0* 1-1, 0 2-2"},
		sample{"$0$1$0", "", "0* 0-0, 1* 0-0, 0 0-0"},
		sample{"${0:ab}c", "abc", "0* 0-2"},
		sample{"$0-${0:a}", "a-a", "0 0-1, 0* 2-3"},
		sample{"${0:a}${0:b$1}", "aa", "0* 0-1, 0 1-2"},
		sample{"${0|a,b|}c$0", "aca", "0* 0-1 |a,b|, 0 2-3"},
		sample{"${0/^/b/}", "", "0* 0-0 /^/b/"},
		sample{"${0:a}${0/a/b/}", "ab", "0* 0-1, 0 1-2 /a/b/"},
		sample{"${0:${1:a}}", "a", "0* 0-1, 1* 0-1 in 0"},
		// Inside of other parts.
		sample{"${1:a$0b}c", "abc", "1* 0-2, 0* 1-1 in 0"},
		sample{"${1:${0:a}}$0", "aa", "1* 0-1, 0* 0-1 in 0, 0 1-2"},
		sample{"${Y:a$0}b", "ab", "0* 1-1"},
		// Not visited, so that one more comes last.
		sample{"${1:a}${1:$0}b", "aab", "1* 0-1, 1 1-2, 0* 3-3"},
		sample{"${X:$0}b", "xb", "0* 2-2"},
		sample{"${1|$0,b|}", "$0", "1* 0-2 |$0,b|, 0* 2-2"},
		sample{"${1:a${2:b}}", "ab", "1* 0-2, 2* 1-2 in 0, 0* 2-2"},
		sample{"$1$2", "", "1* 0-0, 2* 0-0, 0* 0-0"},
	)
}

func TestNumbers(t *testing.T) {
	holdSamples(t, nil,
		sample{"$1${01:a}${1}$01", "aaaa", "1 0-1, 1* 1-2, 1 2-3, 1 3-4, 0* 4-4"},
		sample{"${01:a}${1:b}", "aa", "1* 0-1, 1 1-2, 0* 2-2"},
		sample{"${00:a}$0", "aa", "0* 0-1, 0 1-2"},
		sample{"$00", "", "0* 0-0"},
		sample{"$10${1:a}$011", "aa1", "10* 0-0, 1* 0-1, 1 1-2, 0* 3-3"},
		sample{"$100${99:b}$09$99", "0bb", "10* 0-0, 99* 1-2, 9* 2-2, 99 2-3, 0* 3-3"},
		sample{"${1|a|}${01|b|}${01/a/c/}", "aac", "1* 0-1 |a|, 1 1-2 |b|, 1 2-3 /a/c/, 0* 3-3"},
	)
	for n := 1; n < 100; n++ {
		s := fmt.Sprintf("$%02d-${%d:ab}", n, n)
		holdSamples(t, nil, sample{s, "ab-ab", fmt.Sprintf("%d 0-2, %d* 3-5, 0* 5-5", n, n)})
	}
}

// Fields side by side, empty ones, and those that are in one another.
func TestFields(t *testing.T) {
	holdSamples(t, nil,
		sample{"$1$2$3", "", "1* 0-0, 2* 0-0, 3* 0-0, 0* 0-0"},
		sample{"${1:a}${2:b}$3${4:c}", "abc", "1* 0-1, 2* 1-2, 3* 2-2, 4* 2-3, 0* 3-3"},
		sample{"${1:$2$3}$4", "", "1* 0-0, 2* 0-0 in 0, 3* 0-0 in 0, 4* 0-0, 0* 0-0"},
		sample{"${1:$2a$3}", "a", "1* 0-1, 2* 0-0 in 0, 3* 1-1 in 0, 0* 1-1"},
		sample{"${1:${2:${3:}}}${4:${5:a}}", "a", "1* 0-0, 2* 0-0 in 0, 3* 0-0 in 1, 4* 0-1, 5* 0-1 in 3, 0* 1-1"},
		sample{"${1:a${2:b}c${3:d${4:e}f}g}h$2", "abcdefghb", "1* 0-7, 2* 1-2 in 0, 3* 3-6 in 0, 4* 4-5 in 2, 2 8-9, 0* 9-9"},
		sample{"${3:${2:$1}}${1:a}$2$3", "aaaa", "3* 0-1, 2* 0-1 in 0, 1 0-1 in 1, 1* 1-2, 2 2-3, 3 3-4, 0* 4-4"},
		sample{"${9:${8:$1}$1}${1|x,y|}", "xxx", "9* 0-2, 8* 0-1 in 0, 1 0-1 in 1, 1 1-2 in 0, 1* 2-3 |x,y|, 0* 3-3"},
		// Mirrors of what has fields in it have none.
		sample{"$1${1:$2${3:a}}$1", "aaa", "1 0-1, 1* 1-2, 2* 1-1 in 1, 3* 1-2 in 1, 1 2-3, 0* 3-3"},
	)
}

// Numbers that need others, in any order.
func TestNumbersThatNeedOthers(t *testing.T) {
	holdText(t, "${1:$2}${2:$3}${3:$4}${4:a}", nil, "aaaa")
	holdText(t, "${4:a}${3:$4}${2:$3}${1:$2}", nil, "aaaa")
	holdText(t, "${3:$4}${1:$2}${4:a}${2:$3}", nil, "aaaa")
	holdText(t, "$1${1:<$2>}${2:[$3]}${3:($4)}${4:a}", nil, "<[(a)]><[(a)]>[(a)](a)a")
	holdText(t, "${1:$2$2}${2:$3$3}${3:ab}", nil, strings.Repeat("ab", 7))
	holdText(t, "${1:$2$3}${2:b$3}${3:c}$1", nil, "bccbccbcc")
	holdText(t, "${1:${Y:$2${2/b/c/}}}${2:${Y:b$3}}${3|d|}", nil, "bdcdbdd")
	holdText(t, "${2:$3}$1${3:${1:$4}}${4:x}", nil, "xxxx")
}

// Parts as deep as they are parsed.
func TestDeepParts(t *testing.T) {
	holdSamples(t, nil, sample{"${1:${2:${3:${4:${5:${6:${7:${8:${9:a}}}}}}}}}$9$1", "aaa",
		"1* 0-1, 2* 0-1 in 0, 3* 0-1 in 1, 4* 0-1 in 2, 5* 0-1 in 3, 6* 0-1 in 4, 7* 0-1 in 5, 8* 0-1 in 6, 9* 0-1 in 7, 9 1-2, 1 2-3, 0* 3-3"})
	holdSamples(t, nil, sample{"${1:a${Y:b${2:c${Y:d${3:e${Y:f${4:g${Y:h${5:i}j}k}l}m}n}o}p}q}$3", "abcdefghijklmnopqefghijklm",
		"1* 0-17, 2* 2-15 in 0, 3* 4-13 in 1, 4* 6-11 in 2, 5* 8-9 in 3, 3 17-26, 0* 26-26"})
	holdSamples(t, nil, sample{"${Y:${Y:${Y:${Y:${Y:${Y:${Y:${Y:${Y:a}}}}}}}}}", "a", "0* 1-1"})
	holdSamples(t, nil, sample{"${Y:${Y:${Y:${Y:${Y:${Y:${Y:${Y:${1|a,b|}}}}}}}}}", "a", "1* 0-1 |a,b|, 0* 1-1"})
}
