package multi

import (
	"math"
	"slices"
	"testing"

	"stylus/api"
	"stylus/sels"
)

// P14.2

// result is what a command comes to at selections.
type result struct {
	name   string
	kind   int
	text   string
	l      []api.Sel
	ins    string
	want   string
	killed string
	carets []api.Sel
}

func holdResults(t *testing.T, results []result) {
	t.Helper()
	for _, c := range results {
		d, e := Do(c.kind, []rune(c.text), c.l, []rune(c.ins))
		if string(d.Text) != c.want || string(d.Killed) != c.killed || !slices.Equal(d.Sels, c.carets) || e != api.OK {
			t.Errorf("%s: Do(%d, %q, %v, %q): %q, %q, %v, %d, want %q, %q, %v", c.name, c.kind, c.text, c.l, c.ins, string(d.Text), string(d.Killed), d.Sels, e, c.want, c.killed, c.carets)
		}
	}
}

func TestInsertAtMany(t *testing.T) {
	holdResults(t, []result{
		{"example 1", Insert, "ab", at(0, 2), "x", "xabx", "", at(1, 4)},
		{"several runes", Insert, "abc", at(0, 1, 3), "xy", "xyaxybcxy", "", at(2, 5, 9)},
		{"side by side", Insert, "ab", at(0, 1, 2), "x", "xaxbx", "", at(1, 3, 5)},
		{"nothing", Insert, "ab", at(0, 1, 2), "", "ab", "", at(0, 1, 2)},
		{"spans", Insert, "abcdefg", of(0, 2, 5, 3, 7, 7), "x", "xcxfgx", "abde", at(1, 3, 6)},
		{"spans by more", Insert, "abcdefg", of(0, 2, 5, 3, 7, 7), "xyz", "xyzcxyzfgxyz", "abde", at(3, 7, 12)},
		{"spans by nothing", Insert, "abcdefg", of(0, 2, 5, 3, 7, 7), "", "cfg", "abde", at(0, 1, 3)},
		{"a new line", Insert, "abc", at(1, 2), "\n", "a\nb\nc", "", at(2, 4)},
	})
}

func TestDelLeftAtMany(t *testing.T) {
	holdResults(t, []result{
		{"apart", DelLeft, "abcdef", at(1, 3, 6), "", "bde", "acf", at(0, 1, 3)},
		{"side by side", DelLeft, "abcdef", at(2, 3, 4), "", "aef", "bcd", at(1)},
		{"side by side from 0 on", DelLeft, "abcd", at(0, 1, 2), "", "cd", "ab", at(0)},
		{"everywhere", DelLeft, "abcd", at(0, 1, 2, 3, 4), "", "", "abcd", at(0)},
		{"at 0, where there is nothing", DelLeft, "abcd", at(0, 3), "", "abd", "c", at(0, 2)},
		{"become one, and one behind", DelLeft, "abcdefg", at(2, 3, 6), "", "adeg", "bcf", at(1, 3)},
		{"spans", DelLeft, "abcdefg", of(1, 1, 2, 4, 7, 6), "", "bef", "acdg", at(0, 1, 3)},
		{"a caret next to a span", DelLeft, "abcdefg", of(1, 3, 4, 4, 6, 5), "", "aeg", "bcdf", at(1, 2)},
		{"over new lines", DelLeft, "a\nb\n", at(2, 4), "", "ab", "\n\n", at(1, 2)},
	})
}

func TestDelRightAtMany(t *testing.T) {
	holdResults(t, []result{
		{"apart", DelRight, "abcdef", at(0, 2, 5), "", "bde", "acf", at(0, 1, 3)},
		{"side by side", DelRight, "abcdef", at(1, 2, 3), "", "aef", "bcd", at(1)},
		{"side by side up to the end", DelRight, "abcd", at(2, 3, 4), "", "ab", "cd", at(2)},
		{"everywhere", DelRight, "abcd", at(0, 1, 2, 3, 4), "", "", "abcd", at(0)},
		{"at the end, where there is nothing", DelRight, "abcd", at(1, 4), "", "acd", "b", at(1, 3)},
		{"become one, and one behind", DelRight, "abcdefg", at(1, 2, 5), "", "adeg", "bcf", at(1, 3)},
		{"spans", DelRight, "abcdefg", of(0, 0, 2, 4, 7, 6), "", "bef", "acdg", at(0, 1, 3)},
		{"a caret next to a span", DelRight, "abcdefg", of(1, 1, 2, 4, 6, 6), "", "aef", "bcdg", at(1, 3)},
		{"over new lines", DelRight, "a\nb\n", at(1, 3), "", "ab", "\n\n", at(1, 2)},
	})
}

func TestKillWordAtMany(t *testing.T) {
	holdResults(t, []result{
		{"apart", KillWord, "ab cd ef", at(0, 3, 6), "", "  ", "abcdef", at(0, 1, 2)},
		{"in one word", KillWord, "abcdef gh", at(1, 3, 4), "", "a gh", "bcdef", at(1)},
		{"side by side", KillWord, "ab cd ef", at(1, 2, 3), "", "a", "b  efcd", at(1)},
		// What the last one leaves is what the first one meets.
		{"over what is left", KillWord, "x  yy zz", at(1, 2), "", "x", "  zz yy", at(1)},
		{"beyond the next caret", KillWord, "a, b, c", at(0, 1, 2), "", "", "a,, c b", at(0)},
		{"up to the next caret, and one behind", KillWord, "ab  cd ef", at(1, 2, 7), "", "a ", "b  cdef", at(1, 2)},
		{"at the end, where there is nothing", KillWord, "ab cd", at(3, 5), "", "ab ", "cd", at(3)},
		{"spans", KillWord, "ab cd ef", of(0, 1, 5, 4, 6, 6), "", "b c ", "adef", at(0, 3, 4)},
		{"over new lines", KillWord, "a\n\nb c", at(1, 4), "", "a", "\n\nb c", at(1)},
	})
}

func TestKillLineAtMany(t *testing.T) {
	holdResults(t, []result{
		{"apart", KillLine, "ab\ncd\nef", at(0, 4, 7), "", "\nc\ne", "abdf", at(0, 2, 4)},
		{"in one line", KillLine, "abcdef\ngh", at(1, 3, 4), "", "a\ngh", "bcdef", at(1)},
		{"at the ends of lines", KillLine, "ab\ncd\nef", at(2, 5, 8), "", "abcdef", "\n\n", at(2, 4, 6)},
		{"in a line and at its end", KillLine, "ab\ncd", at(1, 2), "", "a", "bcd\n", at(1)},
		{"new lines alone", KillLine, "\n\n\n\n", at(0, 1, 2), "", "\n", "\n\n\n", at(0)},
		{"empty lines", KillLine, "a\n\nb\n\nc", at(2, 5), "", "a\nb\nc", "\n\n", at(2, 4)},
		{"become one, and one behind", KillLine, "abc\nde", at(1, 2, 5), "", "a\nd", "bce", at(1, 3)},
		{"at the end, where there is nothing", KillLine, "ab\ncd", at(4, 5), "", "ab\nc", "d", at(4)},
		{"spans", KillLine, "ab\ncd\nef", of(0, 1, 5, 2, 7, 7), "", "b\ne", "a\ncdf", at(0, 1, 3)},
	})
}

func TestTransposeAtMany(t *testing.T) {
	holdResults(t, []result{
		{"apart", Transpose, "abcdef", at(1, 4), "", "bacedf", "", at(2, 5)},
		{"the last one at the end", Transpose, "abcdef", at(1, 6), "", "bacdfe", "", at(2, 6)},
		{"the first one at 0, where there is nothing", Transpose, "abcdef", at(0, 3), "", "abdcef", "", at(0, 4)},
		// Each one takes the rune ahead of it to where the next one has been.
		{"two side by side", Transpose, "abcd", at(1, 2), "", "cabd", "", at(2, 3)},
		{"three side by side", Transpose, "abcde", at(1, 2, 3), "", "dabce", "", at(2, 3, 4)},
		// The caret at the end is at the end of what is exchanged ahead of it.
		{"side by side at the end", Transpose, "abcd", at(3, 4), "", "abcd", "", at(2, 4)},
		{"three side by side at the end", Transpose, "abcd", at(2, 3, 4), "", "acbd", "", at(1, 3, 4)},
		{"everywhere", Transpose, "abcd", at(0, 1, 2, 3, 4), "", "cabd", "", at(0, 2, 3, 4)},
		{"everywhere in two runes", Transpose, "ab", at(0, 1, 2), "", "ab", "", at(0, 2)},
		{"two in two runes", Transpose, "ab", at(1, 2), "", "ab", "", at(0, 2)},
		{"both ends of one rune", Transpose, "a", at(0, 1), "", "a", "", at(0, 1)},
		{"two apart meet", Transpose, "abcdef", at(1, 3), "", "badcef", "", at(2, 4)},
		{"one exchanges what the next one has", Transpose, "abcd", at(2, 4), "", "adbc", "", at(3, 4)},
		{"spans", Transpose, "abcdefgh", of(0, 2, 6, 4, 7, 8), "", "acbedfhg", "", at(3, 5, 8)},
		{"over new lines", Transpose, "a\nb\nc", at(1, 3), "", "\na\nbc", "", at(2, 4)},
	})
}

// What is killed is in the order of the selections, also where the text has it
// in another order.
func TestKilledIsFromTheFirstSelectionOn(t *testing.T) {
	for _, kind := range []int{Insert, DelLeft, DelRight, KillWord, KillLine} {
		holdResults(t, []result{
			{"three spans", kind, "abcdefghij", of(0, 2, 6, 3, 8, 9), "", "cghj", "abdefi", at(0, 1, 3)},
			{"two spans, handed in from the last one on", kind, "abcdef", of(4, 5, 2, 1), "", "acdf", "be", at(1, 3)},
		})
	}
	holdResults(t, []result{
		{"a word of three", KillWord, "a, b, c", at(1, 2, 3), "", "a", ", , cb", at(1)},
		{"lines of three", KillLine, "a\nb\nc", at(0, 1, 2), "", "\nc", "a\nb", at(0)},
		{"nothing of spans", Transpose, "abcdef", of(0, 2, 3, 5), "", "acbdfe", "", at(3, 6)},
	})
}

func TestSelectionsThatAreNotNormal(t *testing.T) {
	for _, none := range [][]api.Sel{nil, {}} {
		holdResults(t, []result{
			{"none", Insert, "ab cd", none, "x", "xab cd", "", at(1)},
			{"none", DelLeft, "ab cd", none, "", "ab cd", "", at(0)},
			{"none", DelRight, "ab cd", none, "", "b cd", "a", at(0)},
			{"none", KillWord, "ab cd", none, "", " cd", "ab", at(0)},
			{"none", KillLine, "ab cd", none, "", "", "ab cd", at(0)},
			{"none", Transpose, "ab cd", none, "", "ab cd", "", at(0)},
			{"none in no text", Insert, "", none, "x", "x", "", at(1)},
			{"none in no text", KillLine, "", none, "", "", "", at(0)},
			{"none in no text", Transpose, "", none, "", "", "", at(0)},
		})
	}
	holdResults(t, []result{
		{"out of order", Insert, "abcd", at(3, 1), "x", "axbcxd", "", at(2, 5)},
		{"out of order", DelLeft, "abcd", at(4, 1), "", "bc", "ad", at(0, 2)},
		{"out of order", KillLine, "ab\ncd", at(4, 1), "", "a\nc", "bd", at(1, 3)},
		{"the same one twice", Insert, "abcd", at(2, 2), "x", "abxcd", "", at(3)},
		{"the same one twice", DelRight, "abcd", at(2, 2), "", "abd", "c", at(2)},
		{"touching", Insert, "abcdef", of(1, 3, 3, 4), "x", "axef", "bcd", at(2)},
		{"touching, an empty one", DelLeft, "abcdef", of(1, 3, 3, 3), "", "adef", "bc", at(1)},
		{"in one another", KillWord, "abcdef", of(1, 5, 2, 3), "", "af", "bcde", at(1)},
		{"in one another, a caret", DelRight, "abcdef", of(5, 1, 2, 2), "", "af", "bcde", at(1)},
		{"overlapping", KillLine, "abcdef", of(1, 4, 5, 3), "", "af", "bcde", at(1)},
		{"overlapping, forward", Transpose, "abcdef", of(1, 4, 5, 3), "", "abcdfe", "", at(6)},
		{"overlapping, backward", Transpose, "abcdef", of(4, 1, 3, 5), "", "bacdef", "", at(2)},
		{"below 0", Insert, "abcd", at(-3, 2), "x", "xabxcd", "", at(1, 4)},
		{"two below 0", DelRight, "abcd", at(-3, -1), "", "bcd", "a", at(0)},
		{"beyond the text", DelLeft, "abcd", at(1, 9), "", "bc", "ad", at(0, 2)},
		{"two beyond the text", DelLeft, "abcd", at(7, 9), "", "abc", "d", at(3)},
		{"over the whole text", Insert, "abcd", of(9, -2), "x", "x", "abcd", at(1)},
		{"the least and the greatest places", KillWord, "abcd", of(math.MinInt, 1, 3, math.MaxInt), "", "bc", "ad", at(0, 2)},
		{"the least and the greatest places", Transpose, "abcd", of(math.MinInt, math.MaxInt), "", "abdc", "", at(4)},
		{"outside no text", Insert, "", of(4, -4, 9, 9), "x", "x", "", at(1)},
	})
}

// row returns n carets, each one a step after the one before it.
func row(n, first, step int) []api.Sel {
	var l []api.Sel
	for i := range n {
		l = append(l, sel(first+i*step, first+i*step))
	}
	return l
}

// There may be more selections than MaxSels.
func TestManySelections(t *testing.T) {
	for _, n := range []int{2, 15, 16, 17, 59, 60, 61, 400} {
		times := func(piece string) string { return string(slices.Repeat([]rune(piece), n)) }
		spans := row(n, 0, 3)
		for i := range spans {
			spans[i].Head += 2
		}
		holdResults(t, []result{
			{"inserted", Insert, times("ab"), row(n, 0, 2), "x", times("xab"), "", row(n, 1, 3)},
			{"removed left", DelLeft, times("ab"), row(n+1, 0, 2), "", times("a"), times("b"), row(n+1, 0, 1)},
			{"removed right", DelRight, times("ab"), row(n, 0, 2), "", times("b"), times("a"), row(n, 0, 1)},
			{"spans replaced", Insert, times("abc"), spans, "xy", times("xyc"), times("ab"), row(n, 2, 3)},
			{"words", KillWord, times("ab "), row(n, 0, 3), "", times(" "), times("ab"), row(n, 0, 1)},
			{"lines", KillLine, times("ab\n"), row(n, 0, 3), "", times("\n"), times("ab"), row(n, 0, 1)},
			{"exchanged", Transpose, times("abc"), row(n, 2, 3), "", times("acb"), "", row(n, 3, 3)},
		})
	}
}

// holdLength holds how many runes a text comes to, or that there is ErrFull.
func holdLength(t *testing.T, kind, length int, l []api.Sel, ins int, want int) {
	t.Helper()
	if want < 0 {
		holdNothingDone(t, kind, long(length), l, long(ins), api.ErrFull)
		return
	}
	d, e := Do(kind, long(length), l, long(ins))
	if len(d.Text) != want || e != api.OK || !sels.Is(d.Sels, want) {
		t.Errorf("Do(%d) of %d runes at %v, %d inserted: %d, %v, %d, want %d", kind, length, l, ins, len(d.Text), d.Sels, e, want)
	}
}

func TestErrFullOfInsert(t *testing.T) {
	for _, c := range []struct {
		length int
		l      []api.Sel
		ins    int
		want   int // below 0: ErrFull
	}{
		{0, at(0), 1999, 1999},
		{0, at(0), 2000, 2000},
		{0, at(0), 2001, -1},
		{0, at(0), 500000, -1},
		{1998, at(7), 1, 1999},
		{1999, at(0), 1, 2000},
		{1999, at(1999), 1, 2000},
		{1999, at(1999), 2, -1},
		{1999, at(0, 5), 1, -1},
		{1998, at(0, 5), 1, 2000},
		{1998, at(0, 5, 9), 1, -1},
		{2000, at(0), 1, -1},
		{2000, at(2000), 1, -1},
		{2000, at(0, 2000), 0, 2000},
		{2000, of(3, 4), 1, 2000},
		{2000, of(4, 3), 2, -1},
		{2000, of(3, 4, 8, 6), 1, 1999},
		{2000, of(0, 2000), 2000, 2000},
		{2000, of(0, 2000), 2001, -1},
		{2000, of(0, 1999), 2000, -1},
		{1940, row(60, 0, 1), 1, 2000},
		{1941, row(60, 0, 1), 1, -1},
	} {
		holdLength(t, Insert, c.length, c.l, c.ins, c.want)
	}
}

// The text is too long for a time, though not in the end, if the selections
// that make it shorter come first, that is, are executed last.
func TestErrFullInBetween(t *testing.T) {
	for _, c := range []struct {
		length int
		l      []api.Sel
		ins    int
		want   int // below 0: ErrFull
	}{
		{2000, of(0, 9, 20, 20), 1, -1},
		{2000, of(0, 0, 11, 20), 1, 1993},
		{1999, of(0, 9, 20, 20), 1, 1992},
		{1999, of(0, 9, 20, 20), 2, -1},
		{1998, of(0, 9, 20, 20), 2, 1993},
		{1990, of(0, 100, 200, 200, 300, 300), 5, 1905},
		{1990, of(0, 100, 200, 200, 300, 300), 6, -1},
		{1990, of(0, 100, 200, 201, 300, 300), 5, 1904},
		{1990, of(0, 100, 200, 201, 300, 300), 6, -1},
		{1990, of(0, 0, 100, 200, 300, 300), 10, 1920},
		{1990, of(0, 0, 100, 200, 300, 300), 11, -1},
		{1990, of(0, 0, 100, 100, 200, 300), 20, 1950},
		{1500, of(0, 1000, 1500, 1500), 500, 1500},
		{1500, of(0, 1000, 1500, 1500), 501, -1},
		{1500, of(0, 0, 500, 1500), 750, 2000},
		{1500, of(0, 0, 500, 1500), 751, -1},
	} {
		holdLength(t, Insert, c.length, c.l, c.ins, c.want)
	}
}

func TestTextsAroundTheLimit(t *testing.T) {
	less := func(removed int) func(length int) int {
		return func(length int) int { return length - removed }
	}
	to := func(left int) func(length int) int {
		return func(int) int { return left }
	}
	for _, c := range []struct {
		kind int
		l    []api.Sel
		want func(length int) int
	}{
		{Insert, at(5), less(0)},
		{Insert, of(9, 5), less(4)},
		{DelLeft, at(0), less(0)},
		{DelLeft, at(5, 9), less(2)},
		{DelLeft, of(9, 5), less(4)},
		{DelRight, at(5, 9), less(2)},
		{DelRight, at(3000), less(0)},
		{DelRight, of(5, 9, 3000, 3000), less(4)},
		{KillWord, at(1000), to(1000)},
		{KillWord, at(3000), less(0)},
		{KillWord, of(5, 9), less(4)},
		{KillLine, at(0), to(0)},
		{KillLine, at(1990, 1995), to(1990)},
		{KillLine, at(3000), less(0)},
		{KillLine, of(0, 3000), to(0)},
		{Transpose, at(0), less(0)},
		{Transpose, at(5, 9), less(0)},
		{Transpose, at(3000), less(0)},
		{Transpose, of(9, 5), less(0)},
	} {
		for _, length := range []int{1998, 1999, 2000} {
			holdLength(t, c.kind, length, c.l, 0, c.want(length))
		}
	}
}

// A text is too long from the beginning if it is handed in so, whatever is
// removed of it.
func TestTextsThatAreTooLong(t *testing.T) {
	for _, length := range []int{2001, 2002, 2010, 4000, 100000} {
		for _, kind := range kinds {
			for _, l := range [][]api.Sel{nil, at(0), at(5), at(length), at(0, 5, 9, length), of(5, 9), of(9, 5, length, 20), of(0, length)} {
				for _, ins := range []int{0, 1, 3000} {
					holdLength(t, kind, length, l, ins, -1)
				}
			}
		}
	}
}

func TestErrArgIsToldFirst(t *testing.T) {
	for _, length := range []int{0, 5, 1999, 2000, 2001, 3000} {
		for _, l := range [][]api.Sel{nil, at(0, 5), of(3, 2000)} {
			for _, kind := range otherKinds {
				holdNothingDone(t, kind, long(length), l, long(2001), api.ErrArg)
				holdNothingDone(t, kind, long(length), l, nil, api.ErrArg)
			}
			for _, kind := range kinds {
				holdNothingDone(t, kind, long(length), l, append(long(2001), -1), api.ErrArg)
				holdNothingDone(t, kind, long(length), l, []rune{55296}, api.ErrArg)
			}
		}
	}
}
