package session

import (
	"fmt"
	"math"
	"slices"
	"strconv"
	"strings"
	"testing"

	"stylus/api"
	"stylus/expand"
	"stylus/snippet"
	"stylus/transform"
)

// fields returns the fields that are written in a text, one behind the other: of
// each its number, with a * if it is Primary, its span, ^ and its Up if this is
// not -1, its choices between | and |, and its transform.
func fields(s string) []expand.Field {
	var l []expand.Field
	for _, one := range strings.Split(s, ", ") {
		if one != "" {
			l = append(l, field(strings.Split(one, " ")))
		}
	}
	return l
}

func field(words []string) expand.Field {
	number, primary := strings.CutSuffix(words[0], "*")
	f := expand.Field{N: read(number), Primary: primary, Up: -1}
	from, to, _ := strings.Cut(words[1], "..")
	f.Span = api.Span{From: read(from), To: read(to)}
	for _, w := range words[2:] {
		switch {
		case w[0] == '^':
			f.Up = read(w[1:])
		case w[0] == '|':
			for _, c := range strings.Split(strings.Trim(w, "|"), ",") {
				f.Choices = append(f.Choices, []rune(c))
			}
		default:
			p := strings.Split(w, "/")
			f.Turn = true
			f.T = transform.Transform{Pattern: []rune(p[1]), Format: []rune(p[2]), All: strings.Contains(p[3], "g"), Fold: strings.Contains(p[3], "i")}
		}
	}
	return f
}

func read(s string) int {
	n, e := strconv.Atoi(s)
	if e != nil {
		panic(s)
	}
	return n
}

// state returns a session.
func state(text string, active int, f string) State {
	return State{[]rune(text), fields(f), active}
}

// told tells a session, its fields in the way in which they are written.
func told(x State) string {
	var l []string
	for _, f := range x.Fields {
		s := fmt.Sprint(f.N)
		if f.Primary {
			s += "*"
		}
		s += fmt.Sprintf(" %d..%d", f.Span.From, f.Span.To)
		if f.Up != -1 {
			s += fmt.Sprintf(" ^%d", f.Up)
		}
		for _, c := range f.Choices {
			s += fmt.Sprintf(" |%q", c)
		}
		if f.Turn {
			s += fmt.Sprintf(" /%s/%s/", string(f.T.Pattern), string(f.T.Format))
		}
		l = append(l, s)
	}
	if len(x.Text) > 100 {
		return fmt.Sprintf("%d runes, %d: %s", len(x.Text), x.Active, strings.Join(l, ", "))
	}
	return fmt.Sprintf("%q, %d: %s", string(x.Text), x.Active, strings.Join(l, ", "))
}

// same reports whether two sessions are the same. Nil lists are empty ones.
func same(x, y State) bool {
	return slices.Equal(x.Text, y.Text) && x.Active == y.Active && slices.EqualFunc(x.Fields, y.Fields, sameField)
}

func sameField(f, g expand.Field) bool {
	return f.N == g.N && f.Span == g.Span && f.Up == g.Up && f.Primary == g.Primary && f.Turn == g.Turn &&
		slices.EqualFunc(f.Choices, g.Choices, slices.Equal) &&
		slices.Equal(f.T.Pattern, g.T.Pattern) && slices.Equal(f.T.Format, g.T.Format) && f.T.All == g.T.All && f.T.Fold == g.T.Fold
}

func long(n int) []rune {
	return slices.Repeat([]rune{'q'}, n)
}

func ins(at int, s string) api.Edit {
	return api.Edit{At: at, Ins: []rune(s)}
}

func put(at, del int, s string) api.Edit {
	return api.Edit{At: at, Del: del, Ins: []rune(s)}
}

// holdState holds what a call returned, with no error.
func holdState(t *testing.T, what string, x State, e api.Errno, want State) {
	t.Helper()
	if e != api.OK || !same(x, want) {
		t.Errorf("%s: %s, %d, want %s", what, told(x), e, told(want))
	}
}

// holdError holds an error that a call returned, with a zero state.
func holdError(t *testing.T, what string, x State, e, want api.Errno) {
	t.Helper()
	if e != want || !same(x, State{}) {
		t.Errorf("%s: %s, %d, want %d", what, told(x), e, want)
	}
}

// holdEdit holds what a session becomes when it is edited.
func holdEdit(t *testing.T, x State, l []api.Edit, want State) {
	t.Helper()
	y, e := Edit(x, l)
	holdState(t, fmt.Sprintf("Edit(%s, %v)", told(x), l), y, e, want)
}

func holdEditError(t *testing.T, x State, l []api.Edit, want api.Errno) {
	t.Helper()
	y, e := Edit(x, l)
	holdError(t, fmt.Sprintf("Edit(%s, %v)", told(x), l), y, e, want)
}

// holdSettle holds what a session becomes when it is settled, which is what it
// becomes by no edits, too, and what comes of it stays.
func holdSettle(t *testing.T, x, want State) {
	t.Helper()
	y, e := Settle(x)
	holdState(t, fmt.Sprintf("Settle(%s)", told(x)), y, e, want)
	holdEdit(t, x, nil, want)
	holdEdit(t, x, []api.Edit{}, want)
	y, e = Settle(want)
	holdState(t, fmt.Sprintf("Settle(%s)", told(want)), y, e, want)
}

func holdSettleError(t *testing.T, x State, want api.Errno) {
	t.Helper()
	y, e := Settle(x)
	holdError(t, fmt.Sprintf("Settle(%s)", told(x)), y, e, want)
	holdEditError(t, x, nil, want)
}

// over returns a session that is over.
func over(text string) State {
	return State{Text: []rune(text)}
}

func parts(t *testing.T, s string) []snippet.Node {
	t.Helper()
	l, at, e := snippet.Parse([]rune(s))
	if e != api.OK {
		t.Fatalf("Parse(%q): %d at %d", s, e, at)
	}
	return l
}

// begun returns the session of a snippet in an empty text.
func begun(t *testing.T, s string) State {
	t.Helper()
	x, e := Begin(nil, api.Span{}, parts(t, s), nil)
	if e != api.OK {
		t.Fatalf("Begin(%q): %d", s, e)
	}
	return x
}

func TestExample(t *testing.T) {
	x := begun(t, "${1:a}-$1")
	holdEdit(t, x, []api.Edit{ins(1, "b")}, state("ab-ab", 1, "1* 0..2, 1 3..5, 0* 5..5"))
}

// P16.1

var extremes = []int{math.MinInt, math.MinInt + 1, -1 << 32, -1 << 31, -2, -1, 0, 1, 2, 3, 4, 1999, 2000, 2001, 1 << 31, 1 << 32, math.MaxInt - 1, math.MaxInt}

func holdRight(t *testing.T, x State, want bool) {
	t.Helper()
	if is := Right(x); is != want {
		t.Errorf("Right(%s): %t", told(x), is)
	}
}

func TestRightWithoutFields(t *testing.T) {
	for _, text := range [][]rune{nil, {}, []rune("abc"), {-1, 0xD800, 0x110000}, long(2001)} {
		for _, n := range extremes {
			holdRight(t, State{text, nil, n}, true)
			holdRight(t, State{text, []expand.Field{}, n}, true)
		}
	}
}

func TestRightSpans(t *testing.T) {
	good, bad := "1* 0..3", "1* 0..3, 2 1..2 ^0, "
	for _, s := range []string{"0..0", "0..1", "0..3", "1..1", "1..2", "2..3", "3..3"} {
		holdRight(t, state("abc", 1, "1* "+s), true)
		holdRight(t, state("abc", 1, good+", 2 "+s), true)
		holdRight(t, state("abc", 1, good+", 2 "+s+", 3 3..3"), true)
	}
	for _, s := range []string{"-1..0", "-1..-1", "-1..3", "-1..4", "1..0", "3..2", "2..1", "3..0", "0..4", "3..4", "4..4", "4..3", "4..5", "5..4"} {
		holdRight(t, state("abc", 1, "1* "+s), false)
		holdRight(t, state("abc", 1, bad+"3 "+s), false)
		holdRight(t, state("abc", 1, "3 "+s+", "+good), false)
		holdRight(t, state("abc", 1, good+", 3 "+s+", 4 1..1"), false)
	}
	for _, text := range []string{"", "abc"} {
		for _, from := range extremes {
			for _, to := range extremes {
				want := 0 <= from && from <= to && to <= len(text)
				holdRight(t, state(text, 1, fmt.Sprintf("1* %d..%d", from, to)), want)
				holdRight(t, state(text, 1, fmt.Sprintf("1* 0..0, 1 %d..%d", from, to)), want)
			}
		}
	}
}

func TestRightUps(t *testing.T) {
	for _, up := range extremes {
		for _, active := range extremes {
			holdRight(t, state("abc", active, fmt.Sprintf("1* 0..3 ^%d", up)), up == -1)
			holdRight(t, state("abc", active, fmt.Sprintf("1* 0..3, 1 0..3 ^%d", up)), up == -1 || up == 0)
			holdRight(t, state("abc", active, fmt.Sprintf("1* 0..3, 1 0..3 ^%d, 1 0..3", up)), up == -1 || up == 0)
			holdRight(t, state("abc", active, fmt.Sprintf("1* 0..3, 1 0..3 ^0, 1 0..3 ^%d, 2 1..1", up)), up == -1 || up == 0 || up == 1)
		}
	}
	// An Up need not contain its field.
	holdRight(t, state("abc", 1, "1* 0..1, 2* 2..3 ^0, 3* 0..3 ^1"), true)
}

// What Right doesn't ask for: numbers, primaries, transforms, fields that are
// one in the other, runes that are valid.
func TestRightAnything(t *testing.T) {
	for _, n := range extremes {
		holdRight(t, state("abc", n, fmt.Sprintf("%d* 0..2, %d 1..3, 1* 1..2 ^1 /(/$/ |", n, n)), true)
	}
	holdRight(t, State{[]rune{-1, 0xD800}, fields("1* 0..2, 1 1..1"), 1}, true)
	holdRight(t, State{long(5000), fields("1* 0..5000, 1 2001..4999"), 1}, true)
}

func holdBegin(t *testing.T, text string, from, to int, s string, values []expand.Value, want State) {
	t.Helper()
	x, e := Begin([]rune(text), api.Span{From: from, To: to}, parts(t, s), values)
	holdState(t, fmt.Sprintf("Begin(%q, %d, %d, %q)", text, from, to, s), x, e, want)
}

func holdBeginError(t *testing.T, text []rune, from, to int, l []snippet.Node, values []expand.Value, want api.Errno) {
	t.Helper()
	x, e := Begin(text, api.Span{From: from, To: to}, l, values)
	holdError(t, fmt.Sprintf("Begin(%d runes, %d, %d, %q)", len(text), from, to, string(snippet.Print(l))), x, e, want)
}

func TestBeginSpans(t *testing.T) {
	s := "${1:a}-$1"
	holdBegin(t, "", 0, 0, s, nil, state("a-a", 1, "1* 0..1, 1 2..3, 0* 3..3"))
	holdBegin(t, "wxyz", 0, 0, s, nil, state("a-awxyz", 1, "1* 0..1, 1 2..3, 0* 3..3"))
	holdBegin(t, "wxyz", 2, 2, s, nil, state("wxa-ayz", 1, "1* 2..3, 1 4..5, 0* 5..5"))
	holdBegin(t, "wxyz", 4, 4, s, nil, state("wxyza-a", 1, "1* 4..5, 1 6..7, 0* 7..7"))
	holdBegin(t, "wxyz", 0, 2, s, nil, state("a-ayz", 1, "1* 0..1, 1 2..3, 0* 3..3"))
	holdBegin(t, "wxyz", 1, 3, s, nil, state("wa-az", 1, "1* 1..2, 1 3..4, 0* 4..4"))
	holdBegin(t, "wxyz", 2, 4, s, nil, state("wxa-a", 1, "1* 2..3, 1 4..5, 0* 5..5"))
	holdBegin(t, "wxyz", 0, 4, s, nil, state("a-a", 1, "1* 0..1, 1 2..3, 0* 3..3"))
	holdBegin(t, "wxyz", 3, 4, "", nil, state("wxy", 0, "0* 3..3"))
	holdBegin(t, "wxyz", 0, 4, "", nil, state("", 0, "0* 0..0"))
	holdBegin(t, "wxyz", 1, 1, "", nil, state("wxyz", 0, "0* 1..1"))
	holdBegin(t, "<>", 1, 1, "${2:b}${1:a${3:c}}-$1 $1$2$0", nil,
		state("<bac-ac acb>", 1, "2* 1..2, 1* 2..4, 3* 3..4 ^1, 1 5..7, 1 8..10, 2 10..11, 0* 11..11"))
}

func TestBeginFields(t *testing.T) {
	holdBegin(t, "xy", 1, 1, "${1|one,two|} ${1/o/0/g}", nil, state("xone 0ney", 1, "1* 1..4 |one,two|, 1 5..8 /o/0/g, 0* 8..8"))
	holdBegin(t, "xy", 1, 1, "${1/a/b/i}$1", nil, state("xy", 1, "1 1..1 /a/b/i, 1* 1..1, 0* 1..1"))
	holdBegin(t, "xy", 2, 2, "${3:${2:${1:a}b}}$0c", nil, state("xyabc", 1, "3* 2..4, 2* 2..4 ^0, 1* 2..3 ^1, 0* 4..4"))
}

func TestBeginActive(t *testing.T) {
	for _, x := range []struct {
		s    string
		want int
	}{
		{"", 0}, {"a", 0}, {"$0", 0}, {"$0$0", 0}, {"$1", 1}, {"$0$1", 1}, {"$1$0", 1}, {"$2", 2}, {"$99$0", 99},
		{"$3$2$5", 2}, {"$3$7$0$2$2", 2}, {"${4:${3:$9}}$0", 3}, {"${2|a,b|}$4", 2}, {"${3/a/b/}${8:a}", 3}, {"$0${10:a}$9", 9},
	} {
		if y := begun(t, x.s); y.Active != x.want {
			t.Errorf("Begin(%q): %s, want %d", x.s, told(y), x.want)
		}
	}
	// Parts that were not parsed may have numbers below 0.
	for _, n := range []int{math.MinInt, -1, 5, 100, math.MaxInt} {
		l := []snippet.Node{{Kind: snippet.Stop, N: 0}, {Kind: snippet.Stop, N: n}}
		x, e := Begin([]rune("ab"), api.Span{From: 1, To: 1}, l, nil)
		holdState(t, "Begin", x, e, state("ab", n, fmt.Sprintf("0* 1..1, %d* 1..1", n)))
	}
}

func value(name string, text []rune) []expand.Value {
	return []expand.Value{{Name: []rune(name), Text: text}}
}

func TestBeginValues(t *testing.T) {
	v := []expand.Value{{Name: []rune("X"), Text: []rune("xy")}, {Name: []rune("X"), Text: []rune("no")}}
	holdBegin(t, "ab", 1, 2, "$X${1:$X}$1${Y:z}", v, state("axyxyxyz", 1, "1* 3..5, 1 5..7, 0* 8..8"))
	holdBegin(t, "ab", 1, 2, "$X${1:$X}$1${Y:z}", nil, state("az", 1, "1* 1..1, 1 1..1, 0* 2..2"))
	// Runes that are not valid come from values, and may be in the text before.
	x, e := Begin([]rune{-1, 0xD800, 'a'}, api.Span{From: 1, To: 2}, parts(t, "${1:$X}-$1"), value("X", []rune{0x110000, -5}))
	holdState(t, "Begin", x, e, State{[]rune{-1, 0x110000, -5, '-', 0x110000, -5, 'a'}, fields("1* 1..3, 1 4..6, 0* 6..6"), 1})
}

func TestBeginErrArg(t *testing.T) {
	fine, circular := parts(t, "$1"), parts(t, "${1:$1}")
	tooLong := value("X", long(2001))
	for _, s := range [][2]int{{-1, 0}, {-1, -1}, {-1, 2}, {1, 0}, {2, 1}, {3, 3}, {3, 2}, {2, 3}, {0, 3}, {-1, 3}, {3, 4}, {4, 3}} {
		holdBeginError(t, []rune("ab"), s[0], s[1], fine, nil, api.ErrArg)
		holdBeginError(t, []rune("ab"), s[0], s[1], circular, nil, api.ErrArg)
		holdBeginError(t, []rune("ab"), s[0], s[1], parts(t, "$X"), tooLong, api.ErrArg)
		holdBeginError(t, []rune("ab"), s[0], s[1], parts(t, strings.Repeat("$1", 60)), nil, api.ErrArg)
	}
	for _, from := range extremes {
		for _, to := range extremes {
			if from < 0 || from > to || to > 2 {
				holdBeginError(t, []rune("ab"), from, to, fine, nil, api.ErrArg)
				holdBeginError(t, []rune("ab"), from, to, circular, nil, api.ErrArg)
			}
		}
	}
	holdBeginError(t, long(3000), 0, 3001, fine, nil, api.ErrArg)
	holdBeginError(t, nil, 0, 1, nil, nil, api.ErrArg)
	holdBeginError(t, nil, 1, 1, nil, nil, api.ErrArg)
}

func TestBeginErrorsOfLay(t *testing.T) {
	for _, s := range []string{"${1:$1}", "${1:${2:$1}}", "$1${1:a$2}${2:b$1}"} {
		holdBeginError(t, []rune("ab"), 1, 1, parts(t, s), nil, api.ErrDeep)
		// It comes ahead of a text that is too long.
		holdBeginError(t, long(2001), 0, 0, parts(t, s), nil, api.ErrDeep)
		holdBeginError(t, long(2001), 0, 0, parts(t, s+strings.Repeat("$3", 60)), value("X", long(2001)), api.ErrDeep)
	}
	holdBeginError(t, nil, 0, 0, parts(t, "$X"), value("X", long(2001)), api.ErrFull)
	holdBeginError(t, nil, 0, 0, parts(t, "$X$X"), value("X", long(1001)), api.ErrFull)
	holdBeginError(t, nil, 0, 0, parts(t, strings.Repeat("$1", 60)), nil, api.ErrFull)
	holdBeginError(t, nil, 0, 0, parts(t, strings.Repeat("$1", 60)+"$0"), nil, api.ErrFull)
	for _, s := range []string{strings.Repeat("$1", 59), strings.Repeat("$1", 59) + "$0"} {
		x := begun(t, s)
		if len(x.Fields) != 60 || x.Active != 1 {
			t.Errorf("Begin(%q): %s", s, told(x))
		}
	}
}

func TestBeginErrFull(t *testing.T) {
	for _, n := range []int{1998, 1999, 2000} {
		x, e := Begin(nil, api.Span{}, parts(t, "$X$1"), value("X", long(n)))
		holdState(t, "Begin", x, e, State{long(n), fields(fmt.Sprintf("1* %d..%d, 0* %d..%d", n, n, n, n)), 1})
	}
	// around is what stays of the text, gone what is replaced.
	for _, gone := range []int{0, 1, 7, 3000} {
		for _, from := range []int{0, 3, 1990} {
			text := slices.Concat(long(from), slices.Repeat([]rune{'g'}, gone), long(1990-from))
			for _, n := range []int{9, 10} {
				v := value("X", slices.Repeat([]rune{'x'}, n))
				x, e := Begin(text, api.Span{From: from, To: from + gone}, parts(t, "$X"), v)
				want := slices.Concat(long(from), v[0].Text, long(1990-from))
				holdState(t, "Begin", x, e, State{want, fields(fmt.Sprintf("0* %d..%d", from+n, from+n)), 0})
			}
			for _, n := range []int{11, 12, 2000} {
				holdBeginError(t, text, from, from+gone, parts(t, "$X"), value("X", long(n)), api.ErrFull)
			}
		}
	}
	holdBeginError(t, long(2001), 0, 0, nil, nil, api.ErrFull)
	holdBeginError(t, long(2001), 0, 1, parts(t, "a"), nil, api.ErrFull)
	holdBeginError(t, long(5000), 100, 3099, nil, nil, api.ErrFull)
	x, e := Begin(long(5000), api.Span{From: 100, To: 3100}, nil, nil)
	holdState(t, "Begin", x, e, State{long(2000), fields("0* 100..100"), 0})
}
