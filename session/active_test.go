package session

import (
	"fmt"
	"math"
	"slices"
	"strings"
	"testing"

	"stylus/api"
	"stylus/expand"
)

// P16.3

// numbered returns a session with fields of these numbers, and no others.
func numbered(active int, numbers ...int) State {
	x := State{Text: []rune("abc"), Active: active}
	for i, n := range numbers {
		x.Fields = append(x.Fields, expand.Field{N: n, Up: -1, Span: api.Span{From: i % 3, To: 3}, Primary: i%2 == 1})
	}
	return x
}

// orders has numbers of fields, and their order.
var orders = []struct{ numbers, order []int }{
	{nil, nil},
	{[]int{0}, []int{0}},
	{[]int{0, 0, 0}, []int{0}},
	{[]int{5}, []int{5}},
	{[]int{5, 5}, []int{5}},
	{[]int{1, 0}, []int{1, 0}},
	{[]int{0, 1}, []int{1, 0}},
	{[]int{0, 2, 0, 1, 2, 0}, []int{1, 2, 0}},
	{[]int{1, 2, 3}, []int{1, 2, 3}},
	{[]int{3, 2, 1, 2, 3}, []int{1, 2, 3}},
	{[]int{10, 9, 99, 0, 1}, []int{1, 9, 10, 99, 0}},
	{[]int{-1, 0}, []int{-1, 0}},
	{[]int{0, -1}, []int{-1, 0}},
	{[]int{-1}, []int{-1}},
	{[]int{1, 0, -1, -2}, []int{-2, -1, 1, 0}},
	{[]int{math.MaxInt, 0, math.MinInt, 1, -1, math.MinInt + 1, math.MaxInt - 1, math.MaxInt}, []int{math.MinInt, math.MinInt + 1, -1, 1, math.MaxInt - 1, math.MaxInt, 0}},
	{[]int{math.MaxInt, math.MinInt}, []int{math.MinInt, math.MaxInt}},
}

func TestNumbers(t *testing.T) {
	for _, c := range orders {
		for _, active := range extremes {
			x := numbered(active, c.numbers...)
			if l := Numbers(x); !slices.Equal(l, c.order) {
				t.Errorf("Numbers(%s): %v, want %v", told(x), l, c.order)
			}
		}
	}
	// Of any fields.
	x := state("", 1, "3* 5..-5 ^9, 0 -1..7, 2 8..9 ^-7 /(/$/")
	if l := Numbers(x); !slices.Equal(l, []int{2, 3, 0}) {
		t.Errorf("Numbers(%s): %v", told(x), l)
	}
}

// holdNext holds which number is the next one. Everything else stays.
func holdNext(t *testing.T, x State, back bool, active int, want bool) {
	t.Helper()
	y, is := Next(x, back)
	z := x
	z.Active = active
	if is != want || !same(y, z) {
		t.Errorf("Next(%s, %t): %s, %t, want %d, %t", told(x), back, told(y), is, active, want)
	}
}

func TestNext(t *testing.T) {
	for _, c := range orders {
		for i, n := range c.order {
			x := numbered(n, c.numbers...)
			if i+1 < len(c.order) {
				holdNext(t, x, false, c.order[i+1], true)
			} else {
				holdNext(t, x, false, n, false)
			}
			if i > 0 {
				holdNext(t, x, true, c.order[i-1], true)
			} else {
				holdNext(t, x, true, n, false)
			}
		}
		// A number that no field has.
		for _, n := range extremes {
			if !slices.Contains(c.order, n) {
				holdNext(t, numbered(n, c.numbers...), false, n, false)
				holdNext(t, numbered(n, c.numbers...), true, n, false)
			}
		}
	}
	// Of any session: texts and fields stay as they are.
	for _, text := range [][]rune{nil, []rune("abc"), {-1, 0xD800}, long(5000)} {
		x := State{text, fields("3* 5..-5 ^9 |a,b|, 0 -1..7, 2 8..9 ^-7 /(/$/gi"), 3}
		holdNext(t, x, false, 0, true)
		holdNext(t, x, true, 2, true)
	}
}

// A number is visited forward and back, through all of them.
func TestNextAll(t *testing.T) {
	x := begun(t, "$3${1:a${5:b}}$0${2|c,d|}$1")
	for _, n := range []int{2, 3, 5, 0} {
		y, is := Next(x, false)
		if !is || y.Active != n {
			t.Errorf("Next(%s): %s, %t, want %d", told(x), told(y), is, n)
		}
		x = y
	}
	holdNext(t, x, false, 0, false)
	for _, n := range []int{5, 3, 2, 1} {
		holdNext(t, x, true, n, true)
		x, _ = Next(x, true)
	}
	holdNext(t, x, true, 1, false)
}

func holdSpan(t *testing.T, x State, want api.Span, there bool) {
	t.Helper()
	if s, is := Span(x); is != there || s != want {
		t.Errorf("Span(%s): %v, %t, want %v, %t", told(x), s, is, want, there)
	}
}

func TestSpan(t *testing.T) {
	s := "1 0..1, 1* 1..3, 2* 0..0, 3 1..2, 1* 2..3, 0* 3..3, 4* 5..-9 ^9, 0* 0..2"
	holdSpan(t, state("abc", 1, s), api.Span{From: 1, To: 3}, true)
	holdSpan(t, state("abc", 2, s), api.Span{From: 0, To: 0}, true)
	holdSpan(t, state("abc", 0, s), api.Span{From: 3, To: 3}, true)
	holdSpan(t, state("abc", 4, s), api.Span{From: 5, To: -9}, true)
	for _, n := range []int{3, 5, -1, math.MinInt, math.MaxInt} {
		holdSpan(t, state("abc", n, s), api.Span{}, false)
	}
	holdSpan(t, State{}, api.Span{}, false)
	holdSpan(t, state("abc", 1, "1 1..2"), api.Span{}, false)
	for _, n := range extremes {
		holdSpan(t, state("abc", n, fmt.Sprintf("%d 0..3, %d* 1..2", n, n)), api.Span{From: 1, To: 2}, true)
	}
}

// holdCycle holds the texts that a session has, one behind the other, when its
// choices go round.
func holdCycle(t *testing.T, x State, back bool, texts ...string) {
	t.Helper()
	for _, want := range texts {
		y, e := Cycle(x, back)
		if e != api.OK || string(y.Text) != want {
			t.Errorf("Cycle(%s, %t): %s, %d, want %q", told(x), back, told(y), e, want)
			return
		}
		x = y
	}
}

func TestCycle(t *testing.T) {
	x := begun(t, "<${1|one,two,three|}>")
	holdCycle(t, x, false, "<two>", "<three>", "<one>", "<two>")
	holdCycle(t, x, true, "<three>", "<two>", "<one>", "<three>")
	y, e := Cycle(x, false)
	holdState(t, "Cycle", y, e, state("<two>", 1, "1* 1..4 |one,two,three|, 0* 5..5"))
	y, e = Cycle(x, true)
	holdState(t, "Cycle", y, e, state("<three>", 1, "1* 1..6 |one,two,three|, 0* 7..7"))
	// Two, and one.
	holdCycle(t, begun(t, "${1|a,b|}"), false, "b", "a", "b")
	holdCycle(t, begun(t, "${1|a,b|}"), true, "b", "a", "b")
	holdCycle(t, begun(t, "${1|a|}"), false, "a", "a")
	holdCycle(t, begun(t, "${1|a|}"), true, "a", "a")
	holdCycle(t, begun(t, "${0|a,b|}"), false, "b", "a")
}

func TestCycleEqualChoices(t *testing.T) {
	x := begun(t, "${1|a,b,a,c|}")
	holdCycle(t, x, false, "b", "a", "b")
	holdCycle(t, x, true, "c", "a", "c")
	holdCycle(t, begun(t, "${1|a,a,b|}"), false, "a", "a")
	holdCycle(t, begun(t, "${1|a,a,b|}"), true, "b", "a", "b")
	holdCycle(t, begun(t, "${1|a,b,b|}"), false, "b", "b")
	holdCycle(t, begun(t, "${1|a,b,b|}"), true, "b", "a")
	holdCycle(t, begun(t, "${1|a,a|}"), true, "a", "a")
}

// A text that is none of the choices.
func TestCycleFromAnother(t *testing.T) {
	for _, text := range []string{"", "x", "onet", "on", "One", "one,two"} {
		for _, back := range []bool{false, true} {
			x := begun(t, "${1|one,two,three|}-$1")
			x, _ = Edit(x, []api.Edit{put(0, 3, text)})
			holdCycle(t, x, back, "one-one")
		}
	}
	// The first choice is empty.
	for _, back := range []bool{false, true} {
		holdCycle(t, state("x", 1, "1* 0..1 |,a|"), back, "")
	}
}

func TestCycleEmptyChoices(t *testing.T) {
	holdCycle(t, begun(t, "<${1|,a,b|}>"), false, "<a>", "<b>", "<>", "<a>")
	holdCycle(t, begun(t, "<${1|,a,b|}>"), true, "<b>", "<a>", "<>")
	holdCycle(t, begun(t, "<${1|a,|}>"), false, "<>", "<a>")
	holdCycle(t, begun(t, "<${1||}>"), false, "<>")
	holdCycle(t, begun(t, "<${1|,,a|}>"), false, "<>", "<>")
	holdCycle(t, begun(t, "<${1|,,a|}>"), true, "<a>", "<>")
	// A nil choice is an empty one.
	x := state("", 1, "1* 0..0")
	x.Fields[0].Choices = [][]rune{{'a'}, nil, {'b'}}
	holdCycle(t, x, false, "b", "a", "")
	x.Fields[0].Choices = [][]rune{nil}
	holdCycle(t, x, true, "")
}

func TestCycleMirrors(t *testing.T) {
	x := begun(t, "$1 ${1|one,two,three|} ${1/o/0/} ${2:<$1>}$2")
	holdCycle(t, x, false, "two two tw0 <two><two>", "three three three <three><three>", "one one 0ne <one><one>")
	holdCycle(t, x, true, "three three three <three><three>")
	// Of several primaries the first one counts, with its choices.
	holdCycle(t, state("ab", 1, "1* 0..1 |a,x|, 1* 1..2 |b,y|"), false, "xx", "aa")
	holdCycle(t, state("ab", 1, "1 0..1 |a,x|, 1* 1..2 |b,y|"), false, "yy", "bb")
	// That of the active number.
	holdCycle(t, state("ab", 2, "1* 0..1 |a,x|, 2* 1..2 |b,y|"), false, "ay", "ab")
	// A primary with Turn has the choice itself.
	holdCycle(t, state("ab", 1, "1* 0..1 |a,x| /x/y/, 1 1..2 /x/z/"), false, "xz", "aa")
}

// The text of the field is replaced as a whole: fields beside it and in it go
// behind, whatever the choices have in common.
func TestCycleReplaces(t *testing.T) {
	x := state("once", 1, "1* 0..4 |once,one|, 2* 0..0, 3* 1..2 ^0, 4* 4..4")
	y, e := Cycle(x, false)
	holdState(t, "Cycle", y, e, state("one", 1, "1* 0..3 |once,one|, 2* 3..3, 3* 3..3 ^0, 4* 3..3"))
	x.Fields[0].Choices = x.Fields[0].Choices[:1]
	y, e = Cycle(x, false)
	holdState(t, "Cycle", y, e, state("once", 1, "1* 0..4 |once|, 2* 4..4, 3* 4..4 ^0, 4* 4..4"))
	// What is above it sticks.
	x = state("(a)", 1, "2* 0..3, 1* 1..2 ^0 |a,bcd|, 2 3..3")
	y, e = Cycle(x, true)
	holdState(t, "Cycle", y, e, state("(bcd)(bcd)", 1, "2* 0..5, 1* 1..4 ^0 |a,bcd|, 2 5..10"))
}

func holdCycleError(t *testing.T, x State, want api.Errno) {
	t.Helper()
	for _, back := range []bool{false, true} {
		y, e := Cycle(x, back)
		holdError(t, fmt.Sprintf("Cycle(%s, %t)", told(x), back), y, e, want)
	}
}

func TestCycleErrNone(t *testing.T) {
	for _, s := range []string{
		"", "1* 0..1", "1 0..1 |a,b|", "2* 0..1 |a,b|", "1* 0..1, 1* 1..2 |a,b|", "1 0..1 |a,b|, 1* 0..1", "1 0..1 |a|, 2* 0..1 |b|",
		// Ahead of the other errors.
		"1* 0..9", "1* 5..-5 ^7", "1* 0..1 /(//", "2* 0..9 |a,b|", "1 0..9 |a,b|", "1* 0..1, 1* 0..1 ^1 |a,b|",
	} {
		holdCycleError(t, state("abc", 1, s), api.ErrNone)
		holdCycleError(t, State{long(2001), fields(s), 1}, api.ErrNone)
	}
	holdCycleError(t, state("a", 2, "1* 0..1 |a,b|"), api.ErrNone)
	holdCycleError(t, state("a", 0, "1* 0..1 |a,b|"), api.ErrNone)
	x := state("abc", 1, "1* 0..1")
	x.Fields[0].Choices = [][]rune{}
	holdCycleError(t, x, api.ErrNone)
}

func TestCycleErrArg(t *testing.T) {
	for _, s := range []string{
		"1* 0..4 |a,b|", "1* 4..4 |a,b|", "1* -1..0 |a,b|", "1* -1..-1 |a|", "1* 2..1 |a|", "1* 5..-5 |a|", "1* -9223372036854775808..9223372036854775807 |a|",
		"1* 0..1 ^0 |a,b|", "1* 0..1 ^-2 |a,b|", "1* 0..1 |a,b|, 2 0..4", "1* 0..1 |a,b|, 2 0..1 ^1", "1* 0..1 |a,b| /(//", "1* 0..1 |a,b|, 2 0..1 /a/$/",
	} {
		holdCycleError(t, state("abc", 1, s), api.ErrArg)
	}
	holdCycleError(t, State{long(2001), fields("1* 0..2002 |a,b|"), 1}, api.ErrArg)
	// A choice with a rune that is not valid, if it is the one.
	for _, r := range []rune{-1, 0xD800, 0xDFFF, 0x110000, math.MaxInt32} {
		x := state("a", 1, "1* 0..1 |a,b,c|")
		x.Fields[0].Choices[1] = []rune{'x', r}
		if y, e := Cycle(x, false); e != api.ErrArg || !same(y, State{}) {
			t.Errorf("Cycle(%s): %s, %d", told(x), told(y), e)
		}
		holdCycle(t, x, true, "c")
		x.Text = []rune{'x', r}
		x.Fields[0].Span.To = 2
		holdCycle(t, x, false, "c")
		holdCycle(t, x, true, "a")
		x.Text = append(x.Text, long(2000)...)
		holdCycleError(t, x, api.ErrFull)
		x.Text = append(x.Text[:2], long(1997)...)
		x.Fields[0].Choices = [][]rune{{'y', r}}
		holdCycleError(t, x, api.ErrArg)
	}
}

func TestCycleErrFull(t *testing.T) {
	for n := 1995; n <= 2002; n++ {
		x := State{append([]rune{'a'}, long(n-1)...), fields("1* 0..1 |a,bcd|"), 1}
		if n > 1998 {
			holdCycleError(t, x, api.ErrFull)
		} else {
			holdCycle(t, x, true, "bcd"+strings.Repeat("q", n-1))
		}
	}
	x := State{append([]rune{'a'}, long(1995)...), fields("1* 0..1 |a,bcd|, 1 5..6"), 1}
	holdCycle(t, x, false, "bcdqqqqbcd"+strings.Repeat("q", 1990))
	x.Text = append(x.Text, 'q')
	holdCycleError(t, x, api.ErrFull)
	x.Fields[0].Choices[1] = long(2001)
	holdCycleError(t, x, api.ErrFull)
}
