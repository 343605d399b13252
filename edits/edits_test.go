package edits

import (
	"math"
	"slices"
	"testing"

	"stylus/api"
)

// put returns an edit.
func put(at, del int, ins string) api.Edit {
	return api.Edit{At: at, Del: del, Ins: []rune(ins)}
}

// odd returns an edit that inserts any runes, valid or not.
func odd(at, del int, ins ...rune) api.Edit {
	return api.Edit{At: at, Del: del, Ins: ins}
}

// list returns edits as a list.
func list(l ...api.Edit) []api.Edit {
	return l
}

// long returns a text of n runes, of which not all are the same.
func long(n int) []rune {
	t := make([]rune, n)
	for i := range t {
		t[i] = rune('a' + i%7)
	}
	return t
}

// same reports whether two lists have the same edits; nil runes and no runes
// are the same.
func same(a, b []api.Edit) bool {
	return slices.EqualFunc(a, b, func(x, y api.Edit) bool {
		return x.At == y.At && x.Del == y.Del && slices.Equal(x.Ins, y.Ins)
	})
}

// P13.1

func TestRight(t *testing.T) {
	const least, greatest = math.MinInt, math.MaxInt
	for _, c := range []struct {
		name   string
		l      []api.Edit
		length int
		want   bool
	}{
		{"none", nil, 5, true},
		{"none of an empty text", list(), 0, true},
		{"none, length below 0", nil, -1, true},
		{"none, the least length", nil, least, true},
		{"none, the greatest length", list(), greatest, true},
		{"an empty edit", list(put(0, 0, "")), 0, true},
		{"an empty edit, length below 0", list(put(0, 0, "")), -1, false},
		{"an empty edit, the least length", list(put(0, 0, "")), least, false},
		{"inserts at 0", list(put(0, 0, "x")), 0, true},
		{"inserts inside", list(put(2, 0, "x")), 5, true},
		{"inserts at the length", list(put(5, 0, "x")), 5, true},
		{"inserts behind the length", list(put(6, 0, "x")), 5, false},
		{"removes at 0", list(put(0, 2, "")), 5, true},
		{"removes up to the length", list(put(3, 2, "")), 5, true},
		{"removes one more", list(put(3, 3, "")), 5, false},
		{"removes at the length", list(put(5, 1, "")), 5, false},
		{"removes all", list(put(0, 5, "")), 5, true},
		{"removes more than all", list(put(0, 6, "")), 5, false},
		{"replaces", list(put(1, 2, "xyz")), 5, true},
		{"At below 0", list(put(-1, 0, "x")), 5, false},
		{"At below 0, its end not", list(put(-1, 3, "x")), 5, false},
		{"At is the least number", list(put(least, 0, "x")), 5, false},
		{"At is the least number, Del the greatest", list(put(least, greatest, "")), 5, false},
		{"At is the greatest number", list(put(greatest, 0, "x")), 5, false},
		{"At is the greatest number, of that length", list(put(greatest, 0, "x")), greatest, true},
		{"At is the greatest number, and Del 1", list(put(greatest, 1, "x")), greatest, false},
		{"Del below 0", list(put(2, -1, "x")), 5, false},
		{"Del below 0, its end also", list(put(2, -4, "x")), 5, false},
		{"Del is the least number", list(put(2, least, "x")), 5, false},
		{"Del is the greatest number", list(put(0, greatest, "")), 5, false},
		{"Del is the greatest number, of that length", list(put(0, greatest, "")), greatest, true},
		{"the sum is beyond the greatest number", list(put(1, greatest, "")), 5, false},
		{"the sum is beyond the greatest length", list(put(1, greatest, "")), greatest, false},
		{"both are the greatest number", list(put(greatest, greatest, "")), greatest, false},
		{"at the end of the previous one", list(put(1, 2, ""), put(3, 1, "")), 5, true},
		{"one less", list(put(1, 2, ""), put(2, 1, "")), 5, false},
		{"one more", list(put(1, 2, ""), put(4, 1, "")), 5, true},
		{"at the beginning of the previous one", list(put(1, 2, ""), put(1, 0, "")), 5, false},
		{"ahead of the previous one", list(put(3, 1, ""), put(1, 1, "")), 5, false},
		{"inside one that only removes", list(put(2, 2, ""), put(3, 0, "")), 4, false},
		{"inside one that is not the previous one", list(put(0, 3, ""), put(3, 0, ""), put(2, 0, "")), 5, false},
		{"several that insert at one place", list(put(2, 0, "x"), put(2, 0, "y"), put(2, 0, "")), 5, true},
		{"an insertion, then a removal at one place", list(put(2, 0, "x"), put(2, 1, "y")), 5, true},
		{"a removal, then an insertion at one place", list(put(2, 1, "x"), put(2, 0, "y")), 5, false},
		{"what is inserted does not count", list(put(0, 1, "xyzxyzxyz"), put(1, 4, "")), 5, true},
		{"what is removed does not count", list(put(0, 4, ""), put(4, 2, "")), 5, false},
		{"only the last one is wrong", list(put(0, 1, ""), put(1, 1, ""), put(2, 4, "")), 5, false},
		{"only the middle one is wrong", list(put(0, 1, ""), put(1, -1, ""), put(2, 1, "")), 5, false},
		{"only the first one is wrong", list(put(-1, 1, ""), put(1, 1, ""), put(2, 1, "")), 5, false},
	} {
		if got := Right(c.l, c.length); got != c.want {
			t.Errorf("%s: Right(%v, %d): %v", c.name, c.l, c.length, got)
		}
	}
}

func TestInsertedRunes(t *testing.T) {
	valid := []rune{0, 1, 10, 27, 127, 128, 55295, 57344, 65533, 65534, 65535, 65536, 1114111}
	invalid := []rune{math.MinInt32, -1, 55296, 55297, 56320, 57342, 57343, 1114112, 2000000, math.MaxInt32}
	try := func(r rune, want api.Errno) {
		for _, ins := range [][]rune{{r}, {r, 'x', 'y'}, {'x', r, 'y'}, {'x', 'y', r}} {
			for _, l := range [][]api.Edit{
				list(odd(1, 1, ins...)),
				list(odd(1, 1, ins...), put(2, 1, "z")),
				list(put(0, 0, "z"), odd(1, 0, ins...), put(2, 1, "")),
				list(put(0, 0, ""), put(1, 0, "z"), odd(3, 0, ins...)),
			} {
				_, e := Apply([]rune("abc"), l)
				_, f := Turn([]rune("abc"), l)
				if Right(l, 3) != (want == api.OK) || e != want || f != want {
					t.Errorf("%v: %v, %d, %d", l, Right(l, 3), e, f)
				}
			}
		}
	}
	for _, r := range valid {
		try(r, api.OK)
	}
	for _, r := range invalid {
		try(r, api.ErrArg)
	}
}

// applied has edits that are valid, what they make of a text, and the inverse
// ones.
var applied = []struct {
	name, text string
	l          []api.Edit
	result     string
	inverse    []api.Edit
}{
	{"example 1", "abcd", list(put(1, 2, "x")), "axd", list(put(1, 1, "bc"))},
	{"none", "abc", list(), "abc", list()},
	{"none of an empty text", "", list(), "", list()},
	{"an empty one", "abc", list(put(1, 0, "")), "abc", list(put(1, 0, ""))},
	{"an empty one of an empty text", "", list(put(0, 0, "")), "", list(put(0, 0, ""))},
	{"into an empty text", "", list(put(0, 0, "xy")), "xy", list(put(0, 2, ""))},
	{"inserts at 0", "abc", list(put(0, 0, "xy")), "xyabc", list(put(0, 2, ""))},
	{"inserts inside", "abc", list(put(1, 0, "xy")), "axybc", list(put(1, 2, ""))},
	{"inserts at the length", "abc", list(put(3, 0, "xy")), "abcxy", list(put(3, 2, ""))},
	{"removes at 0", "abc", list(put(0, 1, "")), "bc", list(put(0, 0, "a"))},
	{"removes inside", "abc", list(put(1, 1, "")), "ac", list(put(1, 0, "b"))},
	{"removes at the end", "abc", list(put(1, 2, "")), "a", list(put(1, 0, "bc"))},
	{"removes all", "abc", list(put(0, 3, "")), "", list(put(0, 0, "abc"))},
	{"replaces all", "abc", list(put(0, 3, "x")), "x", list(put(0, 1, "abc"))},
	{"replaces by the same", "abc", list(put(1, 1, "b")), "abc", list(put(1, 1, "b"))},
	{"several that change the length", "abcdef",
		list(put(0, 0, "x"), put(1, 2, ""), put(3, 0, "yz"), put(6, 0, "!")), "xayzdef!",
		list(put(0, 1, ""), put(2, 0, "bc"), put(2, 2, ""), put(7, 1, ""))},
	{"several that make it longer", "abcdef",
		list(put(1, 1, "XYZ"), put(3, 1, "UV"), put(5, 1, "W")), "aXYZcUVeW",
		list(put(1, 3, "b"), put(5, 2, "d"), put(8, 1, "f"))},
	{"several that make it shorter", "abcdefgh",
		list(put(0, 2, "x"), put(3, 2, ""), put(6, 2, "y")), "xcfy",
		list(put(0, 1, "ab"), put(2, 0, "de"), put(3, 1, "gh"))},
	{"side by side", "abcdef",
		list(put(0, 2, "x"), put(2, 2, "yyy"), put(4, 2, "")), "xyyy",
		list(put(0, 1, "ab"), put(1, 3, "cd"), put(4, 0, "ef"))},
	{"insertions at one place", "ab",
		list(put(1, 0, "x"), put(1, 0, ""), put(1, 0, "yz")), "axyzb",
		list(put(1, 1, ""), put(2, 0, ""), put(2, 2, ""))},
	{"insertions at one place, then a removal", "abc",
		list(put(1, 0, "x"), put(1, 0, "y"), put(1, 1, "z")), "axyzc",
		list(put(1, 1, ""), put(2, 1, ""), put(3, 1, "b"))},
	{"insertions at the end", "a",
		list(put(1, 0, "x"), put(1, 0, "y")), "axy",
		list(put(1, 1, ""), put(2, 1, ""))},
	{"removals side by side", "abcd",
		list(put(0, 1, ""), put(1, 1, ""), put(2, 2, "")), "",
		list(put(0, 0, "a"), put(0, 0, "b"), put(0, 0, "cd"))},
	{"wide runes", "aé漢😀",
		list(put(1, 1, "漢"), put(3, 1, "é\n")), "a漢漢é\n",
		list(put(1, 1, "é"), put(3, 2, "😀"))},
}

func TestApplyAndTurn(t *testing.T) {
	for _, c := range applied {
		if s, e := Apply([]rune(c.text), c.l); string(s) != c.result || e != api.OK {
			t.Errorf("%s: Apply: %q, %d", c.name, string(s), e)
		}
		if l, e := Turn([]rune(c.text), c.l); !same(l, c.inverse) || e != api.OK {
			t.Errorf("%s: Turn: %v, %d", c.name, l, e)
		}
		if !Right(c.l, len([]rune(c.text))) {
			t.Errorf("%s: not right", c.name)
		}
	}
}

func TestErrArg(t *testing.T) {
	for _, c := range []struct {
		text string
		l    []api.Edit
	}{
		{"", list(put(1, 0, "x"))},
		{"", list(put(0, 1, "x"))},
		{"", list(put(-1, 0, "x"))},
		{"abc", list(put(4, 0, "x"))},
		{"abc", list(put(2, 2, "x"))},
		{"abc", list(put(-1, 1, "x"))},
		{"abc", list(put(1, -1, "x"))},
		{"abc", list(put(1, math.MaxInt, ""))},
		{"abc", list(put(0, 2, ""), put(1, 1, ""))},
		{"abc", list(put(2, 0, "x"), put(1, 0, "y"))},
		{"abc", list(odd(1, 1, 55296))},
		{"漢", list(put(3, 0, "x"))}, // its length is in runes
	} {
		if s, e := Apply([]rune(c.text), c.l); s != nil || e != api.ErrArg {
			t.Errorf("Apply(%q, %v): %q, %d", c.text, c.l, string(s), e)
		}
		if l, e := Turn([]rune(c.text), c.l); l != nil || e != api.ErrArg {
			t.Errorf("Turn(%q, %v): %v, %d", c.text, c.l, l, e)
		}
	}
}

// Edits are valid or not by what they insert, not by the text.
func TestTextsThatAreNotValid(t *testing.T) {
	text := []rune{-1, 'a', 55296, 1114112, math.MinInt32, 57343}
	s, e := Apply(text, list(put(1, 2, "xy"), put(5, 0, "z")))
	if want := []rune{-1, 'x', 'y', 1114112, math.MinInt32, 'z', 57343}; !slices.Equal(s, want) || e != api.OK {
		t.Errorf("Apply: %v, %d", s, e)
	}
	l, e := Turn(text, list(put(1, 2, "xy"), put(3, 2, "")))
	if want := list(odd(1, 2, 'a', 55296), odd(3, 0, 1114112, math.MinInt32)); !same(l, want) || e != api.OK {
		t.Errorf("Turn: %v, %d", l, e)
	}
	if s, e := Apply(text, nil); !slices.Equal(s, text) || e != api.OK {
		t.Errorf("Apply without edits: %v, %d", s, e)
	}
}

func TestErrFull(t *testing.T) {
	for _, c := range []struct {
		name   string
		length int
		l      []api.Edit
		size   int
	}{
		{"none of 1999", 1999, nil, 1999},
		{"none of 2000", 2000, nil, 2000},
		{"none of 2001", 2001, nil, 2001},
		{"none of many", 9000, list(), 9000},
		{"an empty one of 2001", 2001, list(put(7, 0, "")), 2001},
		{"from an empty text to 1999", 0, list(odd(0, 0, long(1999)...)), 1999},
		{"from an empty text to 2000", 0, list(odd(0, 0, long(2000)...)), 2000},
		{"from an empty text to 2001", 0, list(odd(0, 0, long(2001)...)), 2001},
		{"1999 to 2000", 1999, list(put(1999, 0, "x")), 2000},
		{"2000 to 2001", 2000, list(put(0, 0, "x")), 2001},
		{"2000 to 2000", 2000, list(put(0, 1, "x"), put(1999, 1, "y")), 2000},
		{"2000 to 2000, longer in between", 2000, list(odd(0, 0, long(500)...), put(100, 500, "")), 2000},
		{"2000 to 2000, shorter in between", 2000, list(put(100, 500, ""), odd(2000, 0, long(500)...)), 2000},
		{"2000 to 2001, several", 2000, list(put(0, 1, "x"), put(5, 2, "yz"), put(9, 3, "abcd")), 2001},
		{"3000 to 2000", 3000, list(put(500, 1000, "")), 2000},
		{"3000 to 2001", 3000, list(put(500, 1000, "x")), 2001},
		{"3000 to 1999", 3000, list(put(500, 1002, "x")), 1999},
		{"3000 to 2500", 3000, list(put(500, 500, "")), 2500},
		{"3000 to 1", 3000, list(put(0, 3000, "x")), 1},
	} {
		s, e := Apply(long(c.length), c.l)
		if c.size > 2000 {
			if s != nil || e != api.ErrFull {
				t.Errorf("%s: %d runes, %d", c.name, len(s), e)
			}
		} else if len(s) != c.size || e != api.OK {
			t.Errorf("%s: %d runes, %d", c.name, len(s), e)
		}
		// Turn knows no limit.
		inverse, e := Turn(long(c.length), c.l)
		if e != api.OK || len(inverse) != len(c.l) || !Right(inverse, c.size) {
			t.Errorf("%s: Turn: %d edits, %d", c.name, len(inverse), e)
		}
	}
}

func TestErrArgComesFirst(t *testing.T) {
	much := long(2001)
	for _, l := range [][]api.Edit{
		list(odd(4, 0, much...)),
		list(odd(-1, 0, much...)),
		list(odd(0, 4, much...)),
		list(odd(0, -1, much...)),
		list(odd(2, 0, much...), put(1, 0, "")),
		list(odd(0, 0, append(long(2001), -1)...)),
	} {
		if s, e := Apply([]rune("abc"), l); s != nil || e != api.ErrArg {
			t.Errorf("Apply at %d: %d runes, %d", l[0].At, len(s), e)
		}
	}
	if s, e := Apply(long(2001), list(put(2002, 0, ""))); s != nil || e != api.ErrArg {
		t.Errorf("Apply to 2001 runes: %d runes, %d", len(s), e)
	}
}

// P13.2

func TestPlaceByOne(t *testing.T) {
	for _, c := range []struct {
		name string
		e    api.Edit
		// where the places from 0 to 7 move
		low, high []int
	}{
		{"empty", put(3, 0, ""), []int{0, 1, 2, 3, 4, 5, 6, 7}, []int{0, 1, 2, 3, 4, 5, 6, 7}},
		{"inserts", put(3, 0, "xy"), []int{0, 1, 2, 3, 6, 7, 8, 9}, []int{0, 1, 2, 5, 6, 7, 8, 9}},
		{"inserts at 0", put(0, 0, "xy"), []int{0, 3, 4, 5, 6, 7, 8, 9}, []int{2, 3, 4, 5, 6, 7, 8, 9}},
		{"removes", put(2, 3, ""), []int{0, 1, 2, 2, 2, 2, 3, 4}, []int{0, 1, 2, 2, 2, 2, 3, 4}},
		{"removes at 0", put(0, 2, ""), []int{0, 0, 0, 1, 2, 3, 4, 5}, []int{0, 0, 0, 1, 2, 3, 4, 5}},
		{"replaces by fewer", put(2, 3, "x"), []int{0, 1, 2, 2, 2, 2, 4, 5}, []int{0, 1, 3, 3, 3, 3, 4, 5}},
		{"replaces by as many", put(2, 3, "xyz"), []int{0, 1, 2, 2, 2, 2, 6, 7}, []int{0, 1, 5, 5, 5, 5, 6, 7}},
		{"replaces by more", put(2, 2, "wxyz"), []int{0, 1, 2, 2, 2, 7, 8, 9}, []int{0, 1, 6, 6, 6, 7, 8, 9}},
	} {
		for at := range 8 {
			if got := Place(list(c.e), at, false); got != c.low[at] {
				t.Errorf("%s: %d low: %d", c.name, at, got)
			}
			if got := Place(list(c.e), at, true); got != c.high[at] {
				t.Errorf("%s: %d high: %d", c.name, at, got)
			}
		}
	}
}

func TestPlaceBySeveral(t *testing.T) {
	for _, c := range []struct {
		name string
		l    []api.Edit
		// where the places from 0 on move
		low, high []int
	}{
		{"none", list(), []int{0, 1, 2}, []int{0, 1, 2}},
		{"apart", list(put(0, 0, "x"), put(1, 2, ""), put(4, 0, "yz"), put(6, 0, "!")),
			[]int{0, 2, 2, 2, 3, 6, 7, 9}, []int{1, 2, 2, 2, 5, 6, 8, 9}},
		{"insertions at one place", list(put(1, 0, "x"), put(1, 0, "yz")), []int{0, 1, 5, 6}, []int{0, 4, 5, 6}},
		{"insertions, then a removal at one place", list(put(1, 0, "x"), put(1, 0, "y"), put(1, 2, "z")),
			[]int{0, 1, 1, 1, 5}, []int{0, 4, 4, 4, 5}},
		// The second one takes each place to where the first one ends, and this
		// one takes it along.
		{"side by side", list(put(1, 2, "x"), put(3, 2, "yz")), []int{0, 1, 1, 1, 1, 1, 5}, []int{0, 2, 2, 4, 4, 4, 5}},
		{"removals side by side", list(put(1, 2, "x"), put(3, 2, "")), []int{0, 1, 1, 1, 1, 1, 3}, []int{0, 2, 2, 2, 2, 2, 3}},
		// High, the second one takes place 3 away from the end of what the first
		// one removes.
		{"an insertion behind a removal", list(put(1, 2, ""), put(3, 0, "xy")), []int{0, 1, 1, 1, 4}, []int{0, 1, 1, 3, 4}},
	} {
		for at := range c.low {
			if got := Place(c.l, at, false); got != c.low[at] {
				t.Errorf("%s: %d low: %d", c.name, at, got)
			}
			if got := Place(c.l, at, true); got != c.high[at] {
				t.Errorf("%s: %d high: %d", c.name, at, got)
			}
		}
	}
}

func TestFarPlaces(t *testing.T) {
	const far = 1 << 31
	for _, c := range []struct {
		name     string
		l        []api.Edit
		at, want int
	}{
		{"at the farthest", list(put(0, 1, "x")), far, far},
		{"from the farthest, nearer", list(put(0, 3, "x")), far, far - 2},
		{"from the farthest, above it", list(put(0, 0, "x")), far, far},
		{"to the farthest", list(put(0, 0, "x")), far - 1, far},
		{"above the farthest by 1", list(put(0, 0, "xy")), far - 1, far - 1},
		{"above the farthest by several", list(put(0, 0, "x"), put(1, 0, "y")), far - 1, far - 1},
		{"above it in between, then nearer", list(put(0, 5, ""), put(10, 0, "x")), far, far},
		{"above it in between, then at it", list(put(0, 1, ""), put(10, 0, "x")), far, far},
		{"above it in between, then far nearer", list(put(0, 9, ""), put(10, 0, "xyz")), far - 2, far - 2},
		{"nearer, then at the farthest", list(put(0, 0, "x"), put(10, 1, "")), far, far},
		{"nearer, then above the farthest", list(put(0, 0, "xy"), put(10, 1, "")), far, far},
		{"at the farthest in between", list(put(0, 1, ""), put(10, 0, "x")), far - 1, far - 1},
		{"at the farthest in between, then nearer", list(put(0, 4, ""), put(10, 0, "x")), far - 1, far - 4},
		{"an empty one at the farthest", list(put(far, 0, "")), far, far},
		{"nothing at it", list(put(far, 0, "x")), far - 1, far - 1},
		{"removed up to the farthest", list(put(0, far, "")), far, 0},
		{"removed up to the farthest, ahead", list(put(1, far-1, "")), 0, 0},
		{"above it", list(put(0, 1, "")), far + 1, far + 1},
		{"below 0", list(put(0, 0, "x")), -1, -1},
		{"the least number", list(put(0, 0, "x")), math.MinInt, math.MinInt},
		{"the greatest number", list(put(0, 5, "")), math.MaxInt, math.MaxInt},
		{"no edits, below 0", nil, -1, -1},
		{"no edits, above it", nil, far + 1, far + 1},
		{"no edits, at it", nil, far, far},
	} {
		for _, high := range []bool{false, true} {
			if got := Place(c.l, c.at, high); got != c.want {
				t.Errorf("%s, %v: %d", c.name, high, got)
			}
		}
	}
}

func TestFarPlacesLowAndHigh(t *testing.T) {
	const far = 1 << 31
	for _, c := range []struct {
		name      string
		l         []api.Edit
		at        int
		low, high int
	}{
		{"inserted at the farthest", list(put(far, 0, "x")), far, far, far},
		{"inserted at the farthest, then nearer", list(put(0, 9, ""), put(far, 0, "x")), far, far - 9, far},
		{"replaced at the farthest", list(put(0, 9, ""), put(far-1, 1, "x")), far, far - 10, far - 9},
		{"removed at the farthest", list(put(far-3, 3, "")), far - 1, far - 3, far - 3},
		{"replaced at the farthest by more", list(put(far-3, 3, "wxyz")), far - 1, far - 3, far - 1},
	} {
		if low, high := Place(c.l, c.at, false), Place(c.l, c.at, true); low != c.low || high != c.high {
			t.Errorf("%s: %d, %d", c.name, low, high)
		}
	}
}

func TestPlaceByWhatIsNotValid(t *testing.T) {
	const far = 1 << 31
	for _, l := range [][]api.Edit{
		list(put(0, 0, "x"), put(far+1, 0, "")),
		list(put(0, 0, "x"), put(far, 1, "")),
		list(put(0, far+1, "x")),
		list(put(0, 0, "x"), put(1, far, "")),
		list(put(0, 0, "x"), put(1, math.MaxInt, "")),
		list(put(0, 0, "x"), put(math.MaxInt, math.MaxInt, "")),
		list(put(-1, 0, "x")),
		list(put(-1, 2, "x")),
		list(put(math.MinInt, 0, "x")),
		list(put(0, -1, "x")),
		list(put(0, math.MinInt, "x")),
		list(put(0, 2, "x"), put(1, 0, "")),
		list(put(1, 0, ""), put(0, 0, "x")),
		list(odd(0, 0, 55296)),
		list(put(0, 0, "x"), odd(90, 0, 'y', -1)),
		list(put(0, 0, "x"), odd(90, 0, 1114112, 'y')),
	} {
		for _, at := range []int{0, 1, 2, 5, 100, far - 1, far} {
			for _, high := range []bool{false, true} {
				if got := Place(l, at, high); got != at {
					t.Errorf("%v: %d, %v: %d", l, at, high, got)
				}
			}
		}
	}
}

func TestBetween(t *testing.T) {
	for _, c := range []struct {
		a, b string
		want []api.Edit
	}{
		{"", "", nil},
		{"a", "a", nil},
		{"abcab", "abcab", nil},
		{"", "abc", list(put(0, 0, "abc"))},
		{"abc", "", list(put(0, 3, ""))},
		{"aab", "aaab", list(put(2, 0, "a"))},
		{"aaab", "aab", list(put(2, 1, ""))},
		{"abab", "ab", list(put(2, 2, ""))},
		{"ab", "abab", list(put(2, 0, "ab"))},
		{"aa", "aaaa", list(put(2, 0, "aa"))},
		{"aaaa", "aa", list(put(2, 2, ""))},
		{"aba", "abcba", list(put(2, 0, "cb"))},
		{"abcba", "aba", list(put(2, 2, ""))},
		{"ab", "abc", list(put(2, 0, "c"))},
		{"abc", "ab", list(put(2, 1, ""))},
		{"bc", "abc", list(put(0, 0, "a"))},
		{"abc", "bc", list(put(0, 1, ""))},
		{"b", "abc", list(put(0, 1, "abc"))},
		{"abc", "b", list(put(0, 3, "b"))},
		{"ac", "abc", list(put(1, 0, "b"))},
		{"abc", "ac", list(put(1, 1, ""))},
		{"abc", "axc", list(put(1, 1, "x"))},
		{"abc", "xbc", list(put(0, 1, "x"))},
		{"abc", "abx", list(put(2, 1, "x"))},
		{"abc", "xyz", list(put(0, 3, "xyz"))},
		{"abc", "cab", list(put(0, 3, "cab"))},
		{"abcd", "axyd", list(put(1, 2, "xy"))},
		{"abcd", "xbcy", list(put(0, 4, "xbcy"))},
		{"ab", "ba", list(put(0, 2, "ba"))},
		{"aé漢b", "aé字b", list(put(2, 1, "字"))},
		{"abc", "abC", list(put(2, 1, "C"))},
		{"a\nb", "a\n\nb", list(put(2, 0, "\n"))},
	} {
		if got := Between([]rune(c.a), []rune(c.b)); !same(got, c.want) {
			t.Errorf("Between(%q, %q): %v", c.a, c.b, got)
		}
	}
}

func TestBetweenNilAndEmpty(t *testing.T) {
	for _, a := range [][]rune{nil, {}} {
		for _, b := range [][]rune{nil, {}} {
			if got := Between(a, b); len(got) != 0 {
				t.Errorf("Between two empty ones: %v", got)
			}
		}
		if got := Between(a, []rune("ab")); !same(got, list(put(0, 0, "ab"))) {
			t.Errorf("Between, from an empty one: %v", got)
		}
		if got := Between([]rune("ab"), a); !same(got, list(put(0, 2, ""))) {
			t.Errorf("Between, to an empty one: %v", got)
		}
	}
}

func TestBetweenTextsThatAreNotValid(t *testing.T) {
	for _, c := range []struct {
		a, b []rune
		want []api.Edit
	}{
		{[]rune{-1, 55296, 1114112}, []rune{-1, 55296, 1114112}, nil},
		{[]rune{-1, 55296, 1114112}, []rune{-1, 55297, 1114112}, list(odd(1, 1, 55297))},
		{[]rune{-1}, []rune{-2}, list(odd(0, 1, -2))},
		{[]rune{55296}, []rune{0xFFFD}, list(odd(0, 1, 0xFFFD))},
		{[]rune{math.MinInt32, math.MaxInt32}, []rune{math.MaxInt32}, list(odd(0, 1))},
	} {
		if got := Between(c.a, c.b); !same(got, c.want) {
			t.Errorf("Between(%v, %v): %v", c.a, c.b, got)
		}
	}
}

func TestBetweenLongTexts(t *testing.T) {
	a := long(5000)
	if got := Between(a, long(5000)); len(got) != 0 {
		t.Errorf("two equal ones: %d edits", len(got))
	}
	b := long(5000)
	b[4321] = 'X'
	if got := Between(a, b); !same(got, list(put(4321, 1, "X"))) {
		t.Errorf("one rune: %v", got)
	}
	if got := Between(a, a[:4000]); !same(got, list(put(4000, 1000, ""))) {
		t.Errorf("the end removed: %v", got)
	}
	if got := Between(nil, a); !same(got, list(odd(0, 0, a...))) {
		t.Errorf("from nil: %d edits", len(got))
	}
}

// P13.3

func TestInverseEditsLeadBack(t *testing.T) {
	for _, c := range applied {
		text := []rune(c.text)
		s, _ := Apply(text, c.l)
		inverse, _ := Turn(text, c.l)
		if back, e := Apply(s, inverse); !slices.Equal(back, text) || e != api.OK {
			t.Errorf("%s: back to %q, %d", c.name, string(back), e)
		}
		// The inverse ones of the inverse ones are those that there were.
		if again, e := Turn(s, inverse); !same(again, c.l) || e != api.OK {
			t.Errorf("%s: turned twice: %v, %d", c.name, again, e)
		}
	}
}

func TestInverseEditsOfLongTexts(t *testing.T) {
	for _, l := range [][]api.Edit{
		list(put(0, 2000, "")),
		list(put(0, 1, ""), put(1999, 1, "")),
		list(put(0, 1, "xyz"), put(1000, 1, "uv"), put(1990, 10, "z")),
		list(put(300, 200, "x"), odd(500, 10, long(200)...), put(2000, 0, "!")),
	} {
		text := long(2000)
		s, e := Apply(text, l)
		inverse, f := Turn(text, l)
		if e != api.OK || f != api.OK {
			t.Errorf("%d, %d", e, f)
		}
		if back, e := Apply(s, inverse); !slices.Equal(back, text) || e != api.OK {
			t.Errorf("back to %d runes, %d", len(back), e)
		}
	}
}

func TestBetweenLeadsToTheSecondText(t *testing.T) {
	texts := []string{"", "a", "aa", "aab", "aaab", "ab", "abab", "ba", "xyz", "axz", "é漢", "漢", string(long(2000)), string(long(1999))}
	for _, a := range texts {
		for _, b := range texts {
			l := Between([]rune(a), []rune(b))
			if s, e := Apply([]rune(a), l); string(s) != b || e != api.OK {
				t.Errorf("%q to %q: %q, %d", a, b, string(s), e)
			}
			inverse, _ := Turn([]rune(a), l)
			if s, e := Apply([]rune(b), inverse); string(s) != a || e != api.OK {
				t.Errorf("%q back to %q: %q, %d", b, a, string(s), e)
			}
		}
	}
}
