package session

import (
	"math"
	"slices"
	"strings"
	"testing"

	"stylus/api"
	"stylus/expand"
	"stylus/transform"
)

// settled has a session's text and fields, and those of it when it is settled.
type settled struct{ text, fields, after, want string }

func holdSettled(t *testing.T, l ...settled) {
	t.Helper()
	for _, x := range l {
		for _, active := range []int{1, 0, 7} {
			holdSettle(t, state(x.text, active, x.fields), state(x.after, active, x.want))
		}
	}
}

// P16.2: to settle

func TestSettleMirrors(t *testing.T) {
	holdSettled(t,
		// The same text.
		settled{"", "", "", ""},
		settled{"abc", "", "abc", ""},
		settled{"a-a", "1* 0..1, 1 2..3", "a-a", "1* 0..1, 1 2..3"},
		settled{"a-a", "1 0..1, 1* 2..3, 1 2..3", "a-a", "1 0..1, 1* 2..3, 1 2..3"},
		settled{"ab", "1* 1..1, 1 1..1, 1 0..0", "ab", "1* 1..1, 1 1..1, 1 0..0"},
		settled{"ab", "1* 0..2, 1 0..2", "ab", "1* 0..2, 1 0..2"},
		// Another one, behind the primary, ahead of it, on both sides.
		settled{"a-b", "1* 0..1, 1 2..3", "a-a", "1* 0..1, 1 2..3"},
		settled{"a-b", "1 0..1, 1* 2..3", "b-b", "1 0..1, 1* 2..3"},
		settled{"a-b", "1* 2..3, 1 0..1", "b-b", "1* 2..3, 1 0..1"},
		settled{"a-b-c", "1 0..1, 1* 2..3, 1 4..5", "b-b-b", "1 0..1, 1* 2..3, 1 4..5"},
		// It is longer, shorter, empty, or becomes so.
		settled{"abc-x.", "1* 0..3, 1 4..5", "abc-abc.", "1* 0..3, 1 4..7"},
		settled{"x-abc.", "1 0..1, 1* 2..5", "abc-abc.", "1 0..3, 1* 4..7"},
		settled{"a-xyz.", "1* 0..1, 1 2..5", "a-a.", "1* 0..1, 1 2..3"},
		settled{"xyz-a.", "1 0..3, 1* 4..5", "a-a.", "1 0..1, 1* 2..3"},
		settled{"-xyz.", "1* 0..0, 1 1..4", "-.", "1* 0..0, 1 1..1"},
		settled{"ab-.", "1* 0..2, 1 3..3", "ab-ab.", "1* 0..2, 1 3..5"},
		settled{"-ab.", "1 0..0, 1* 1..3", "ab-ab.", "1 0..2, 1* 3..5"},
		// Its text begins or ends as it should, and is replaced as a whole all the same.
		settled{"ab-axb", "1* 0..2, 1 3..6, 2 4..5 ^1", "ab-ab", "1* 0..2, 1 3..5, 2 5..5 ^1"},
		settled{"ab-abx", "1* 0..2, 1 3..6, 2 3..4 ^1", "ab-ab", "1* 0..2, 1 3..5, 2 5..5 ^1"},
		settled{"ab-ab", "1* 0..2, 1 3..5, 2 4..5 ^1", "ab-ab", "1* 0..2, 1 3..5, 2 4..5 ^1"},
		// Side by side.
		settled{"abx", "1* 0..2, 1 2..3", "abab", "1* 0..2, 1 2..4"},
		settled{"xab", "1 0..1, 1* 1..3", "abab", "1 0..2, 1* 2..4"},
		settled{"ab", "1* 0..2, 1 2..2", "abab", "1* 0..2, 1 2..4"},
		settled{"ab", "1 0..0, 1* 0..2", "abab", "1 0..2, 1* 2..4"},
		settled{"abxy", "1* 0..2, 1 2..3, 1 3..4", "ababab", "1* 0..2, 1 2..4, 1 4..6"},
		// Empty ones at the same place: the earlier one comes first.
		settled{"ab", "1* 0..2, 1 2..2, 1 2..2", "ababab", "1* 0..2, 1 2..4, 1 4..6"},
		settled{"ab", "1 0..0, 1 0..0, 1* 0..2", "ababab", "1 0..2, 1 2..4, 1* 4..6"},
		settled{"ab", "1* 0..2, 1 2..2, 2* 2..2, 1 2..2", "ababab", "1* 0..2, 1 2..4, 2* 6..6, 1 4..6"},
		// Several numbers.
		settled{"a-b-c-d", "1* 0..1, 2* 2..3, 1 4..5, 2 6..7", "a-b-a-b", "1* 0..1, 2* 2..3, 1 4..5, 2 6..7"},
		settled{"a-b-c-d", "0* 0..1, -3* 2..3, 0 4..5, -3 6..7", "a-b-a-b", "0* 0..1, -3* 2..3, 0 4..5, -3 6..7"},
	)
}

func TestSettleTurns(t *testing.T) {
	holdSettled(t,
		settled{"ab-", "1* 0..2, 1 3..3 /a/x/", "ab-xb", "1* 0..2, 1 3..5 /a/x/"},
		settled{"ab-xb", "1* 0..2, 1 3..5 /a/x/", "ab-xb", "1* 0..2, 1 3..5 /a/x/"},
		settled{"ab-ab", "1* 0..2, 1 3..5 /a/x/", "ab-xb", "1* 0..2, 1 3..5 /a/x/"},
		settled{"-aba", "1 0..0 /a/xy/g, 1* 1..4", "xybxy-aba", "1 0..5 /a/xy/g, 1* 6..9"},
		settled{"-abA", "1 0..0 /a/xy/gi, 1* 1..4", "xybxy-abA", "1 0..5 /a/xy/gi, 1* 6..9"},
		settled{"ab-cd", "1* 0..2, 1 3..5 /.*//", "ab-", "1* 0..2, 1 3..3 /.*//"},
		settled{"ab-cd", "1* 0..2, 1 3..5 /q/x/", "ab-ab", "1* 0..2, 1 3..5 /q/x/"},
		settled{"-", "1* 0..0, 1 1..1 /^$/none/", "-none", "1* 0..0, 1 1..5 /^$/none/"},
		settled{"ab-", "1* 0..2, 1 3..3 /(.*)b/<$1$0>/", "ab-<aab>", "1* 0..2, 1 3..8 /(.*)b/<$1$0>/"},
		// Several ones, each by its own transform.
		settled{"ab-cd-", "1* 0..2, 1 3..5 /a/x/, 1 5..5 /b/y/, 1 6..6", "ab-xbay-ab", "1* 0..2, 1 3..5 /a/x/, 1 5..7 /b/y/, 1 8..10"},
		// A primary with Turn has its own text.
		settled{"a-b", "1* 0..1 /a/x/, 1 2..3", "a-a", "1* 0..1 /a/x/, 1 2..3"},
		settled{"a-b", "1* 0..1 /a/x/, 1 2..3 /a/y/", "a-y", "1* 0..1 /a/x/, 1 2..3 /a/y/"},
		settled{"a", "1* 0..1 /a/x/", "a", "1* 0..1 /a/x/"},
		// In a field without Turn a transform doesn't matter.
		settled{"a-b", "1* 0..1, 1 2..3", "a-a", "1* 0..1, 1 2..3"},
	)
	x := state("a-b", 1, "1* 0..1 /a/x/, 1 2..3 /a/x/")
	x.Fields[0].Turn, x.Fields[1].Turn = false, false
	want := State{[]rune("a-a"), slices.Clone(x.Fields), 1}
	holdSettle(t, x, want)
	// A text that is transformed is cut off, but then there is the primary besides.
	y := State{long(1000), fields("1* 0..1000, 1 1000..1000 /.*/$0$0$0/"), 1}
	holdSettleError(t, y, api.ErrFull)
}

func TestSettleNumbers(t *testing.T) {
	holdSettled(t,
		// No primary: any text.
		settled{"abc", "1 0..1, 1 1..3", "abc", "1 0..1, 1 1..3"},
		settled{"abc", "1 0..1 /a/x/, 1 1..3", "abc", "1 0..1 /a/x/, 1 1..3"},
		settled{"abcd", "1 0..1, 2* 1..2, 1 2..3, 2 3..4", "abcb", "1 0..1, 2* 1..2, 1 2..3, 2 3..4"},
		// Several: the first one counts, wherever it is.
		settled{"abc", "1* 0..1, 1* 1..2, 1* 2..3", "aaa", "1* 0..1, 1* 1..2, 1* 2..3"},
		settled{"abc", "1 0..1, 1* 2..3, 1* 1..2", "ccc", "1 0..1, 1* 2..3, 1* 1..2"},
		settled{"abc", "1* 0..1, 1* 1..2 /a/xy/, 1 2..3", "axya", "1* 0..1, 1* 1..3 /a/xy/, 1 3..4"},
		settled{"abc", "2* 0..1, 1* 1..2, 1* 2..3", "abb", "2* 0..1, 1* 1..2, 1* 2..3"},
		// Numbers are told apart, also the greatest and the least one.
		settled{"abc", "1* 0..1, 2* 1..2, 3* 2..3", "abc", "1* 0..1, 2* 1..2, 3* 2..3"},
		settled{"abcd", "-9223372036854775808* 0..1, 9223372036854775807* 1..2, -9223372036854775808 2..3, 9223372036854775807 3..4", "abab", "-9223372036854775808* 0..1, 9223372036854775807* 1..2, -9223372036854775808 2..3, 9223372036854775807 3..4"},
	)
}

func TestSettleInFields(t *testing.T) {
	holdSettled(t,
		// Mirrors in fields of other numbers, which stick.
		settled{"(x)-ab", "2* 0..3, 1 1..2 ^0, 1* 4..6", "(ab)-ab", "2* 0..4, 1 1..3 ^0, 1* 5..7"},
		settled{"x-ab", "2* 0..1, 1 0..1 ^0, 1* 2..4", "ab-ab", "2* 0..2, 1 0..2 ^0, 1* 3..5"},
		settled{"-ab", "2* 0..0, 1 0..0 ^0, 1* 1..3", "ab-ab", "2* 0..2, 1 0..2 ^0, 1* 3..5"},
		settled{"-ab", "3* 0..0, 2* 0..0 ^0, 1 0..0 ^1, 1* 1..3", "ab-ab", "3* 0..2, 2* 0..2 ^0, 1 0..2 ^1, 1* 3..5"},
		settled{"(x)-ab-(x)", "2* 0..3, 1 1..2 ^0, 1* 4..6, 2 7..10", "(ab)-ab-(ab)", "2* 0..4, 1 1..3 ^0, 1* 5..7, 2 8..12"},
		// Not told by an Up: what is around an empty one doesn't stick.
		settled{"-ab", "2* 0..0, 1 0..0, 1* 1..3", "ab-ab", "2* 2..2, 1 0..2, 1* 3..5"},
		settled{"-ab", "1 0..0, 2* 0..0, 1* 1..3", "ab-ab", "1 0..2, 2* 2..2, 1* 3..5"},
		// In its own primary.
		settled{"ab", "1* 0..2, 1 0..2 ^0", "ab", "1* 0..2, 1 0..2 ^0"},
		settled{"ab", "1* 0..2, 1 1..2 ^0 /.*/x/", "ax", "1* 0..2, 1 1..2 ^0 /.*/x/"},
		settled{"ab", "1* 0..2, 1 1..1 ^0 /.*//", "ab", "1* 0..2, 1 1..1 ^0 /.*//"},
		settled{"a", "1* 0..1, 1 1..1 ^0 /.*/x/", "ax", "1* 0..2, 1 1..2 ^0 /.*/x/"},
		// Around it: it goes behind what the mirror becomes.
		settled{"abc", "1 0..3, 1* 1..2 ^0", "", "1 0..0, 1* 0..0 ^0"},
		settled{"abc", "1 0..3 /^$/x/, 1* 1..2 ^0", "x", "1 0..1 /^$/x/, 1* 1..1 ^0"},
		settled{"abc", "1* 1..2, 1 0..3", "", "1* 0..0, 1 0..0"},
		settled{"b", "1 0..1, 1* 0..1 ^0", "b", "1 0..1, 1* 0..1 ^0"},
	)
}

func TestSettleAgain(t *testing.T) {
	holdSettled(t,
		// 3 has the text of 2, which has that of 1: the later comes first.
		settled{"abcx", "3 0..1, 3* 1..2, 2 1..2 ^1, 2* 2..3, 1 2..3 ^3, 1* 3..4", "xxxx", "3 0..1, 3* 1..2, 2 1..2 ^1, 2* 2..3, 1 2..3 ^3, 1* 3..4"},
		settled{"abcxyz", "3 0..1, 3* 1..2, 2 1..2 ^1, 2* 2..3, 1 2..3 ^3, 1* 3..6", "xyzxyzxyzxyz", "3 0..3, 3* 3..6, 2 3..6 ^1, 2* 6..9, 1 6..9 ^3, 1* 9..12"},
		// The other way round once is enough.
		settled{"xabc", "1* 0..1, 2* 1..2, 1 1..2 ^1, 3* 2..3, 2 2..3 ^3, 3 3..4", "xxxx", "1* 0..1, 2* 1..2, 1 1..2 ^1, 3* 2..3, 2 2..3 ^3, 3 3..4"},
		settled{"a(b)c", "2 0..1, 2* 1..4, 1 2..3 ^1, 1* 4..5", "(c)(c)c", "2 0..3, 2* 3..6, 1 4..5 ^1, 1* 6..7"},
		settled{"a(b)c", "2 0..1 /c/-/, 2* 1..4, 1 2..3 ^1 /c/cc/, 1* 4..5", "(-c)(cc)c", "2 0..4 /c/-/, 2* 4..8, 1 5..7 ^1 /c/cc/, 1* 8..9"},
	)
}

// A field in its own number's primary loses an a with each visit. There are as
// many visits as there are fields, and two.
func TestSettleVisits(t *testing.T) {
	for more := range 4 {
		others := strings.Repeat(", 7 0..0", more)
		for a := range 12 {
			x := state("-"+strings.Repeat("a", a), 1, "1* 0.."+itoa(a+1)+", 1 1.."+itoa(a+1)+" ^0 /-a?//"+others)
			left := a - (2 + more + 2)
			if left <= 0 {
				holdSettle(t, x, state("-", 1, "1* 0..1, 1 1..1 ^0 /-a?//"+others))
			} else {
				holdSettle(t, x, over("-"+strings.Repeat("a", left)))
			}
		}
	}
}

func itoa(n int) string {
	return string([]rune{rune('0' + n/10), rune('0' + n%10)})
}

// What never comes to an end.
func TestSettleNever(t *testing.T) {
	for _, x := range []struct{ text, fields, after string }{
		// A mirror in its primary gets longer with each of four visits.
		{"ab", "1* 0..2, 1 1..2 ^0", "aaaaab"},
		{"ab", "1* 0..2, 1 2..2 ^0", "ababababab"},
		{"ab.", "1* 0..2, 1 0..1 ^0", "abbbbb."},
		// With five.
		{"ab.", "1* 0..2, 1 1..2 ^0, 2* 3..3", "aaaaaab."},
		// Two texts that should be each other's opposite, in six visits.
		{"aa", "1* 0..1, 2 0..1 ^0, 2* 1..2, 1 1..2 ^2 /^((b)|a)/${2:?a:b}/", "ba"},
		{"ab", "1* 0..1, 2 0..1 ^0, 2* 1..2, 1 1..2 ^2 /^((b)|a)/${2:?a:b}/", "ab"},
	} {
		for _, active := range []int{1, 2, 0} {
			holdSettle(t, state(x.text, active, x.fields), over(x.after))
		}
	}
	// The session is over by an edit.
	holdEdit(t, state("ab", 1, "2* 1..1, 2 1..1"), []api.Edit{ins(1, "X")}, state("aXb", 1, "2* 2..2, 2 2..2"))
	holdEdit(t, state("ab", 1, "1* 0..2, 1 0..2 ^0"), []api.Edit{ins(2, "X")}, over("abXXXXX"))
}

// Fields that are neither disjoint nor one in the other: it is over, also if all
// texts are what they should be.
func TestSettleCrossing(t *testing.T) {
	for _, s := range []string{
		"1* 0..2, 2* 1..3", "2* 1..3, 1* 0..2", "1* 0..3, 2* 1..4", "1 0..2, 1 1..3", "1* 0..2, 2* 1..3 ^0",
		"1* 0..4, 2* 0..2 ^0, 3* 1..3 ^0", "0* 4..4, 1* 0..3, 2* 0..1, 3* 2..4", "1* 0..3, 2* 0..1, 3* 1..4", "1* 0..3, 2* 2..3, 3* 1..4",
		"1* 0..2, 2* 1..4, 3* 2..4", "1* 0..1, 2* 1..3, 3* 2..4", "1* 0..3, 2* 1..2, 3* 1..2, 4* 0..3, 5* 2..4", "1* 2..4, 2* 0..1, 3* 1..3",
	} {
		for _, active := range []int{1, 0, 9} {
			holdSettle(t, state("abcd", active, s), over("abcd"))
		}
	}
	for _, s := range []string{
		"1* 0..2, 2* 2..4", "1* 0..4, 2* 0..4", "1* 1..3, 2* 1..3, 3* 1..3", "1* 0..2, 2* 0..4", "1* 2..4, 2* 0..4", "1* 0..1, 2* 1..2, 3* 2..3, 4* 3..4",
		"1* 0..3, 2* 1..3, 3* 0..1, 4* 3..4", "3* 1..2, 2* 1..3, 1* 0..4",
		// Empty ones are in and beside others.
		"1* 0..2, 2* 0..0", "1* 0..2, 2* 1..1", "1* 0..2, 2* 2..2", "1* 0..2, 2* 3..3", "1* 1..1, 2* 1..1", "2* 0..0, 1* 0..2", "2* 1..1, 1* 0..2, 3* 2..4, 4* 2..2",
		"1* 0..1, 2* 1..1, 3* 1..2, 4* 1..1", "1* 0..4, 2* 1..1 ^0, 3* 1..3 ^0, 4* 3..3 ^0, 5* 2..2 ^2",
	} {
		holdSettle(t, state("abcd", 1, s), state("abcd", 1, s))
	}
	// They may be so until they are settled, ...
	holdSettle(t, state("abcd", 1, "1* 0..0, 1 0..2, 2* 1..3"), state("cd", 1, "1* 0..0, 1 0..0, 2* 0..1"))
	// ... and may become so.
	holdEdit(t, state("abcd", 2, "1* 0..4, 2* 0..2"), []api.Edit{ins(0, "XY")}, over("XYabcd"))
	holdEdit(t, state("abcd", 1, "1* 0..4, 2* 0..2"), []api.Edit{ins(0, "XY")}, state("XYabcd", 1, "1* 0..6, 2* 2..4"))
	holdEdit(t, state("abcd", 2, "1* 0..4, 2* 0..2 ^0"), []api.Edit{ins(0, "XY")}, state("XYabcd", 2, "1* 0..6, 2* 0..4 ^0"))
	holdSettle(t, state("abc-xyz", 1, "1* 4..7, 2* 0..3, 3* 0..2, 1 0..1 ^2"), over("xyzbc-xyz"))
	holdSettle(t, state("abc-xyz", 1, "1* 4..7, 2* 0..3, 3* 0..2 ^1, 1 0..1 ^2"), state("xyzbc-xyz", 1, "1* 6..9, 2* 0..5, 3* 0..4 ^1, 1 0..3 ^2"))
}

// P16.2: errors

func TestErrArgOfState(t *testing.T) {
	for _, s := range []string{
		"1* 0..4", "1* -1..0", "1* 2..1", "1* 4..4", "1* 0..0 ^0", "1* 0..0 ^-2", "1* 0..0 ^5", "1* 0..1, 1 0..1 ^1", "1* 0..1, 1 0..1 ^2, 2* 0..3",
		"1* 0..3, 2* 1..2 ^0, 3* 3..4", "1* 0..3, 2* -9223372036854775808..9223372036854775807",
	} {
		x := state("abc", 1, s)
		holdSettleError(t, x, api.ErrArg)
		holdEditError(t, x, []api.Edit{ins(0, "X")}, api.ErrArg)
		// It comes ahead of a text that is too long.
		x.Text = append(x.Text, long(2000)...)
		if !Right(x) {
			holdSettleError(t, x, api.ErrArg)
		}
	}
}

// turning returns a field with a transform.
func turning(f, pattern, format string) expand.Field {
	x := fields(f)[0]
	x.Turn = true
	x.T = transform.Transform{Pattern: []rune(pattern), Format: []rune(format)}
	return x
}

func TestErrArgOfTransforms(t *testing.T) {
	for _, bad := range [][2]string{
		{"(", ""}, {"a**", ""}, {"", "$"}, {"a", "${10}"}, {strings.Repeat("a", 61), ""}, {"", strings.Repeat("a", 401)}, {strings.Repeat("(", 9) + strings.Repeat(")", 9), ""},
	} {
		if transform.Check(turning("1* 0..1", bad[0], bad[1]).T) == api.OK {
			t.Errorf("%q is fine", bad)
		}
		// A primary, a mirror, a field of a number without a primary; the first one, and the last one.
		for _, l := range [][]expand.Field{
			{turning("1* 0..1", bad[0], bad[1])},
			{turning("1 0..1", bad[0], bad[1])},
			append(fields("1* 0..1, 2 1..1"), turning("1 0..1", bad[0], bad[1])),
			append(fields("1* 0..1, 2 1..1"), turning("2 0..1", bad[0], bad[1])),
			append([]expand.Field{turning("1 0..1", bad[0], bad[1])}, fields("1* 1..2, 2 2..2")...),
		} {
			x := State{[]rune("abc"), l, 1}
			holdSettleError(t, x, api.ErrArg)
			holdEditError(t, x, []api.Edit{ins(0, "X")}, api.ErrArg)
			holdEditError(t, x, []api.Edit{ins(4, "X")}, api.ErrArg)
			x.Text = long(2001)
			holdSettleError(t, x, api.ErrArg)
			// Without Turn it doesn't matter.
			x.Text = []rune("aaa")
			for i := range l {
				l[i].Turn = false
			}
			if _, e := Settle(x); e != api.OK {
				t.Errorf("Settle(%s): %d", told(x), e)
			}
		}
	}
}

func TestErrArgOfEdits(t *testing.T) {
	x := state("abcd", 1, "1* 0..1, 1 2..3")
	for _, l := range [][]api.Edit{
		{ins(-1, "X")}, {ins(5, "X")}, {put(0, 5, "X")}, {put(4, 1, "")}, {put(0, -1, "")}, {put(2, -1, "")},
		{ins(math.MinInt, "")}, {ins(math.MaxInt, "")}, {put(1, math.MaxInt, "")}, {put(math.MaxInt, math.MaxInt, "")}, {put(0, math.MinInt, "")},
		{ins(1, "X"), ins(0, "Y")}, {put(0, 2, ""), ins(1, "Y")}, {put(0, 3, "X"), put(1, 1, "Y")}, {put(1, 1, "X"), put(1, 1, "Y")},
		{ins(0, ""), ins(5, "")}, {ins(5, ""), ins(0, "")}, {ins(0, ""), ins(2, ""), ins(1, "")},
		{{At: 0, Ins: []rune{-1}}}, {{At: 4, Ins: []rune{'a', 0xD800}}}, {{At: 0, Ins: []rune{0x110000}}}, {{At: 0, Ins: []rune{0xDFFF}}, {At: 1}}, {{At: 0}, {At: 1, Ins: []rune{math.MinInt32}}},
	} {
		holdEditError(t, x, l, api.ErrArg)
		// It comes ahead of a text that is too long, and of one that would be.
		if l[0].At <= 4 && l[0].Del <= 3 && slices.IsSortedFunc(l, func(a, b api.Edit) int { return a.At - b.At }) {
			continue
		}
		holdEditError(t, State{long(2001), nil, 1}, append(l, ins(4000, "X")), api.ErrArg)
	}
	holdEditError(t, State{long(2001), nil, 1}, []api.Edit{{At: 5, Ins: []rune{-1}}}, api.ErrArg)
	holdEditError(t, State{long(2000), nil, 1}, []api.Edit{ins(0, "X"), {At: 5, Ins: []rune{-1}}}, api.ErrArg)
	holdEditError(t, State{long(2001), nil, 1}, []api.Edit{put(0, 2002, "")}, api.ErrArg)
	holdEditError(t, State{long(2000), fields("1* 0..2000, 1 2000..2000"), 1}, []api.Edit{ins(2001, "X")}, api.ErrArg)
	// Runes that are valid, at the ends of what is.
	holdEdit(t, state("", 0, ""), []api.Edit{{Ins: []rune{0, 0xD7FF, 0xE000, 0x10FFFF, 10}}}, State{[]rune{0, 0xD7FF, 0xE000, 0x10FFFF, 10}, nil, 0})
}

// The runes of the text itself may be any, also those that mirrors have of them.
func TestInvalidRunesOfTheText(t *testing.T) {
	x := State{[]rune{-1, 0xD800, '-', 'b'}, fields("1* 0..2, 1 3..4, 1 4..4 /q/x/"), 1}
	holdSettle(t, x, State{[]rune{-1, 0xD800, '-', -1, 0xD800, -1, 0xD800}, fields("1* 0..2, 1 3..5, 1 5..7 /q/x/"), 1})
	holdEdit(t, x, []api.Edit{ins(2, "c")}, State{[]rune{-1, 0xD800, 'c', '-', -1, 0xD800, 'c', -1, 0xD800, 'c'}, fields("1* 0..3, 1 4..7, 1 7..10 /q/x/"), 1})
}

func TestErrFullFromTheStart(t *testing.T) {
	for _, n := range []int{1999, 2000} {
		holdSettle(t, State{long(n), nil, 3}, State{long(n), nil, 3})
		holdSettle(t, State{long(n), fields("1* 5..1999"), 1}, State{long(n), fields("1* 5..1999"), 1})
	}
	for _, n := range []int{2001, 5000} {
		for _, s := range []string{"", "1* 0..2001", "1* 0..0, 1 0..2001", "1* 0..1, 2* 5..2001, 1 6..1990 ^1"} {
			holdSettleError(t, State{long(n), fields(s), 1}, api.ErrFull)
			holdEditError(t, State{long(n), fields(s), 1}, []api.Edit{put(0, 2001, "")}, api.ErrFull)
			holdEditError(t, State{long(n), fields(s), 1}, []api.Edit{ins(0, "")}, api.ErrFull)
		}
	}
}

func TestErrFullByEdits(t *testing.T) {
	x := State{long(1990), nil, 1}
	for n := range 13 {
		s := string(long(n))
		// Runes more, at once, in two edits, and with others that go.
		for _, l := range [][]api.Edit{
			{ins(0, s)}, {ins(1990, s)}, {ins(5, s[:n/2]), ins(9, s[n/2:])}, {put(5, 7, s+"1234567")}, {ins(5, s), put(9, 20, "")}, {put(5, 20, ""), ins(30, s)},
			{ins(5, s), put(9, 1, "ab"), put(11, 1, "")},
		} {
			most, end := 1990, 1990
			for _, e := range slices.Backward(l) {
				end += len(e.Ins) - e.Del
				most = max(most, end)
			}
			if most > 2000 {
				holdEditError(t, x, l, api.ErrFull)
			} else if y, e := Edit(x, l); e != api.OK || len(y.Text) != end {
				t.Errorf("Edit(%s, %v): %s, %d", told(x), l, told(y), e)
			}
		}
	}
	// From the last edit on: it is too long behind the last one, if not behind the first one.
	full := State{long(2000), nil, 1}
	holdEditError(t, full, []api.Edit{put(0, 9, ""), ins(20, "X")}, api.ErrFull)
	holdEdit(t, full, []api.Edit{ins(0, "X"), put(20, 1, "")}, State{append([]rune{'X'}, long(1999)...), nil, 1})
	holdEditError(t, full, []api.Edit{put(0, 9, ""), ins(20, "X"), ins(21, "")}, api.ErrFull)
	holdEditError(t, full, []api.Edit{put(0, 9, ""), ins(20, "XY"), put(30, 1, "")}, api.ErrFull)
	holdEditError(t, full, []api.Edit{ins(0, "X")}, api.ErrFull)
	holdEdit(t, full, []api.Edit{put(0, 2000, string(long(2000)))}, full)
	holdEditError(t, full, []api.Edit{put(0, 2000, string(long(2001)))}, api.ErrFull)
}

func TestErrFullByMirrors(t *testing.T) {
	for _, n := range []int{9, 10, 11} {
		// At the end.
		x := State{long(1990), fields("1* 0.." + itoa(n) + ", 1 1990..1990"), 1}
		// Shorter again by a later mirror, and shorter already by an earlier one.
		y := State{long(1990), fields("2* 1980..1980, 1* 0.." + itoa(n) + ", 1 500..500, 2 800..900"), 1}
		z := State{long(1990), fields("2* 1980..1980, 1* 0.." + itoa(n) + ", 2 800..900, 1 500..500"), 1}
		if n > 10 {
			holdSettleError(t, x, api.ErrFull)
			holdSettleError(t, y, api.ErrFull)
		} else {
			holdSettle(t, x, State{long(1990 + n), fields("1* 0.." + itoa(n) + ", 1 1990.." + told3(1990+n)), 1})
			holdSettle(t, y, State{long(1890 + n), fields("2* " + told3(1880+n) + ".." + told3(1880+n) + ", 1* 0.." + itoa(n) + ", 1 500.." + told3(500+n) + ", 2 " + told3(800+n) + ".." + told3(800+n)), 1})
		}
		holdSettle(t, z, State{long(1890 + n), fields("2* " + told3(1880+n) + ".." + told3(1880+n) + ", 1* 0.." + itoa(n) + ", 2 " + told3(800+n) + ".." + told3(800+n) + ", 1 500.." + told3(500+n)), 1})
	}
	// Edits that would have room alone.
	x := State{long(1998), fields("1* 0..1, 1 1990..1991"), 1}
	holdEdit(t, x, []api.Edit{ins(1, "X")}, State{slices.Concat([]rune("qX"), long(1989), []rune("qX"), long(7)), fields("1* 0..2, 1 1991..1993"), 1})
	holdEditError(t, x, []api.Edit{ins(1, "XY")}, api.ErrFull)
	// What never comes to an end may be too long ahead of it.
	holdSettleError(t, State{long(1997), fields("1* 0..2, 1 1..2 ^0"), 1}, api.ErrFull)
	holdSettle(t, State{long(1996), fields("1* 0..2, 1 1..2 ^0"), 1}, State{Text: long(2000)})
	// The primary itself has all that there is.
	holdSettle(t, State{long(2000), fields("1* 0..2000, 1 0..2000 ^0"), 1}, State{long(2000), fields("1* 0..2000, 1 0..2000 ^0"), 1})
	holdSettleError(t, State{long(2000), fields("1* 0..2000, 1 0..1999 ^0"), 1}, api.ErrFull)
}

func told3(n int) string {
	return itoa(n/100) + itoa(n%100)
}
