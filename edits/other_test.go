package edits

import (
	"math"
	"slices"
	"testing"

	"stylus/api"
)

var numbers = []int{math.MinInt, math.MinInt + 1, math.MinInt32, -2, -1, 0, 1, 2, 3, 4, 5, 2000, math.MaxInt32, 1 << 31, 1<<31 + 1, 1 << 33, math.MaxInt - 1, math.MaxInt}

var oddTexts = [][]rune{
	nil,
	{},
	{'a'},
	{-1, 10, math.MinInt32, math.MaxInt32},
	{0x110000, 0xD800, 10, 0xFFFD, 0x10FFFF},
	[]rune("abcd"),
}

// R1

func TestAnyNumbers(t *testing.T) {
	var all []api.Edit
	for _, at := range numbers {
		for _, del := range numbers {
			all = append(all, put(at, del, ""), put(at, del, "xy"))
		}
	}
	for _, a := range all {
		holdAny(t, []api.Edit{a})
		for _, b := range all {
			holdAny(t, []api.Edit{a, b})
		}
	}
	d := lot(16)
	for range 30000 {
		l := make([]api.Edit, d.draw(6))
		for i := range l {
			l[i] = all[d.draw(len(all))]
		}
		holdAny(t, l)
		holdEdits(t, oddTexts[d.draw(len(oddTexts))], l)
	}
}

// holdAny holds what is promised of edits for any lengths and places.
func holdAny(t *testing.T, l []api.Edit) {
	t.Helper()
	for _, n := range numbers {
		if got, want := Right(l, n), validEdits(l, n); got != want {
			t.Fatalf("Right(%v, %d): %v", l, n, got)
		}
		holdPlace(t, l, n)
	}
}

func TestAnyEdits(t *testing.T) {
	for _, text := range oddTexts {
		for _, ins := range oddTexts {
			for _, at := range numbers {
				for _, del := range numbers {
					l := []api.Edit{{At: at, Del: del, Ins: ins}}
					holdEdits(t, text, l)
					holdPlace(t, l, 1)
				}
			}
		}
		for _, b := range oddTexts {
			holdBetween(t, text, b)
		}
	}
}

// There may be more edits, and more runes, than any text may have.
func TestLongLists(t *testing.T) {
	const n = 300000
	text := slices.Repeat([]rune("ab"), n)
	var l, want []api.Edit
	for i := range n {
		l = append(l, put(2*i, 1, "xyz"))
		want = append(want, put(4*i, 3, "a"))
	}
	if s, e := Apply(text, l); s != nil || e != api.ErrFull {
		t.Errorf("Apply: %d runes, %d", len(s), e)
	}
	if inverse, e := Turn(text, l); !same(inverse, want) || e != api.OK {
		t.Errorf("Turn: %d edits, %d", len(inverse), e)
	}
	if low, high := Place(l, 2*n-2, false), Place(l, 2*n-2, true); low != 4*n-4 || high != 4*n-1 {
		t.Errorf("Place: %d, %d", low, high)
	}
	for i := range l {
		l[i] = put(2*i, 2, "")
	}
	if s, e := Apply(text, l); len(s) != 0 || e != api.OK {
		t.Errorf("Apply, all removed: %d runes, %d", len(s), e)
	}
	l[n-1].Del = 3
	if s, e := Apply(text, l); s != nil || e != api.ErrArg {
		t.Errorf("Apply, one too many removed: %d runes, %d", len(s), e)
	}
}

// R2

func TestNothingBesideErrors(t *testing.T) {
	for _, c := range []struct {
		text []rune
		l    []api.Edit
		want api.Errno
	}{
		{[]rune("abc"), list(put(0, 1, "x"), put(4, 0, "y")), api.ErrArg},
		{[]rune("abc"), list(put(0, 1, "x"), odd(3, 0, 'y', -1)), api.ErrArg},
		{long(2000), list(put(0, 1, "x"), put(4, 0, "y")), api.ErrFull},
		{long(2001), nil, api.ErrFull},
	} {
		if s, e := Apply(c.text, c.l); s != nil || e != c.want {
			t.Errorf("Apply: %d runes, %d, want %d", len(s), e, c.want)
		}
		if l, e := Turn(c.text, c.l); c.want == api.ErrArg && (l != nil || e != c.want) {
			t.Errorf("Turn: %v, %d, want %d", l, e, c.want)
		}
	}
}

// R3

// roomy returns a text with room behind its end, and all of its memory.
func roomy(given []rune) (text, all []rune) {
	all = append(slices.Clone(given), 71, 72, 73, 74, 75, 76)
	return all[:len(given)], all
}

// roomyEdits returns edits with room behind their end and behind the ends of
// what they insert, and all of their memory.
func roomyEdits(given []api.Edit) (l, all []api.Edit, inserted [][]rune) {
	all = append(slices.Clone(given), put(71, 72, "r"), put(73, 74, "s"))
	for i := range all {
		text, memory := roomy(all[i].Ins)
		all[i].Ins = text
		inserted = append(inserted, memory)
	}
	return all[:len(given)], all, inserted
}

func cloneAll(l [][]rune) [][]rune {
	c := make([][]rune, len(l))
	for i := range l {
		c[i] = slices.Clone(l[i])
	}
	return c
}

func cloneEdits(l []api.Edit) []api.Edit {
	c := slices.Clone(l)
	for i := range c {
		c[i].Ins = slices.Clone(c[i].Ins)
	}
	return c
}

// given has texts and edits, of which some are not valid for the text.
var given = []struct {
	text string
	l    []api.Edit
}{
	{"", nil},
	{"", list(put(0, 0, "xy"))},
	{"abcdef", nil},
	{"abcdef", list(put(0, 0, ""))},
	{"abcdef", list(put(0, 6, ""))},
	{"abcdef", list(put(0, 6, "xyz"))},
	{"abcdef", list(put(6, 0, "xyz"))},
	{"abcdef", list(put(1, 2, "x"), put(3, 2, "yz"), put(6, 0, ""))},
	{"abcdef", list(put(2, 0, "x"), put(2, 0, "yz"), put(2, 3, "w"))},
	{"abcdef", list(put(1, 2, "x"), put(2, 2, "yz"))},
	{"abcdef", list(put(7, 0, "x"))},
	{"abcdef", list(odd(1, 1, 'x', -1))},
	{"abcdef", list(odd(1, 1, long(2000)...))},
}

func TestArgumentsStay(t *testing.T) {
	for _, c := range given {
		text, memory := roomy([]rune(c.text))
		l, all, inserted := roomyEdits(c.l)
		before, editsBefore, insertedBefore := slices.Clone(memory), cloneEdits(all), cloneAll(inserted)
		Right(l, len(text))
		Apply(text, l)
		Turn(text, l)
		for at := -1; at < 9; at++ {
			Place(l, at, false)
			Place(l, at, true)
		}
		other, otherMemory := roomy([]rune("abxf"))
		otherBefore := slices.Clone(otherMemory)
		Between(text, other)
		Between(other, text)
		Between(text, text)
		if !slices.Equal(memory, before) || !slices.Equal(otherMemory, otherBefore) {
			t.Errorf("%q, %v: the text became %q", c.text, c.l, string(memory))
		}
		if !same(all, editsBefore) || !slices.EqualFunc(inserted, insertedBefore, slices.Equal[[]rune]) {
			t.Errorf("%q, %v: the edits became %v", c.text, c.l, all)
		}
	}
}

// spoil writes over all of a text's memory.
func spoil(t []rune) {
	t = t[:cap(t)]
	for i := range t {
		t[i] = -77
	}
}

// spoilEdits writes over all memory of edits.
func spoilEdits(l []api.Edit) {
	l = l[:cap(l)]
	for i := range l {
		spoil(l[i].Ins)
		l[i] = put(-77, -78, "spoiled")
	}
}

func TestResultsAreNewMemory(t *testing.T) {
	for _, c := range given {
		text, memory := roomy([]rune(c.text))
		other, otherMemory := roomy([]rune("abxyf"))
		l, all, inserted := roomyEdits(c.l)
		before, otherBefore, editsBefore, insertedBefore := slices.Clone(memory), slices.Clone(otherMemory), cloneEdits(all), cloneAll(inserted)
		s, _ := Apply(text, l)
		inverse, _ := Turn(text, l)
		there, back := Between(text, other), Between(other, text)
		wantText, wantInverse := slices.Clone(s), cloneEdits(inverse)
		wantThere, wantBack := cloneEdits(there), cloneEdits(back)

		s2, _ := Apply(text, l)
		inverse2, _ := Turn(text, l)
		spoil(s2)
		spoilEdits(inverse2)
		spoilEdits(Between(text, other))
		spoilEdits(Between(other, text))
		if !slices.Equal(memory, before) || !slices.Equal(otherMemory, otherBefore) || !same(all, editsBefore) || !slices.EqualFunc(inserted, insertedBefore, slices.Equal[[]rune]) {
			t.Errorf("%q, %v: a result shares memory with an argument", c.text, c.l)
		}
		spoil(memory)
		spoil(otherMemory)
		spoilEdits(all)
		if !slices.Equal(s, wantText) || !same(inverse, wantInverse) || !same(there, wantThere) || !same(back, wantBack) {
			t.Errorf("%q, %v: a result changes with an argument or another result", c.text, c.l)
		}
	}
}

// No two inserted texts of one result share memory, nor the room behind them.
func TestInsertedTextsAreApart(t *testing.T) {
	text := []rune("abcdefgh")
	l := list(put(0, 2, ""), put(2, 3, "x"), put(5, 1, ""), put(6, 0, "y"), put(6, 2, ""))
	for i := range l {
		inverse, _ := Turn(text, l)
		want := cloneEdits(inverse)
		spoil(inverse[i].Ins)
		want[i].Ins = inverse[i].Ins
		if !same(inverse, want) {
			t.Errorf("spoiled at %d: %v, want %v", i, inverse, want)
		}
		again, _ := Turn(text, l)
		want = cloneEdits(again)
		_ = append(again[i].Ins, 1, 2, 3, 4, 5, 6, 7, 8, 9)
		if !same(again, want) || string(text) != "abcdefgh" {
			t.Errorf("appended at %d: %v, want %v", i, again, want)
		}
	}
}

// Edits that are handed in may share what they insert.
func TestEditsThatShareMemory(t *testing.T) {
	text := []rune("abcd")
	l := list(odd(0, 1, text...), odd(2, 1, text...), odd(4, 0, text[1:3]...))
	if s, e := Apply(text, l); string(s) != "abcdbabcddbc" || e != api.OK {
		t.Errorf("Apply: %q, %d", string(s), e)
	}
	want := list(put(0, 4, "a"), put(5, 4, "c"), put(10, 2, ""))
	if inverse, e := Turn(text, l); !same(inverse, want) || e != api.OK {
		t.Errorf("Turn: %v, %d", inverse, e)
	}
	if got := Between(text, text[1:3]); !same(got, list(put(0, 4, "bc"))) || string(text) != "abcd" {
		t.Errorf("Between: %v, %q", got, string(text))
	}
}

func TestNilAndEmptyAreTheSame(t *testing.T) {
	empty, none := make([]rune, 0, 3), make([]api.Edit, 0, 3)
	for _, n := range numbers {
		if !Right(nil, n) || !Right(none, n) {
			t.Errorf("no edits for %d", n)
		}
		if Place(nil, n, true) != n || Place(none, n, false) != n {
			t.Errorf("%d moves by no edits", n)
		}
	}
	for _, text := range [][]rune{nil, empty} {
		for _, l := range [][]api.Edit{nil, none} {
			s, e := Apply(text, l)
			inverse, f := Turn(text, l)
			if len(s) != 0 || e != api.OK || len(inverse) != 0 || f != api.OK {
				t.Errorf("of no text: %v, %d; %v, %d", s, e, inverse, f)
			}
		}
		for _, ins := range [][]rune{nil, empty} {
			l := list(api.Edit{Ins: ins})
			s, e := Apply(text, l)
			inverse, f := Turn(text, l)
			if len(s) != 0 || e != api.OK || !same(inverse, l) || f != api.OK {
				t.Errorf("an empty edit of no text: %v, %d; %v, %d", s, e, inverse, f)
			}
			l = list(api.Edit{At: 1, Del: 1, Ins: ins})
			if s, e := Apply([]rune("abc"), l); string(s) != "ac" || e != api.OK || Place(l, 3, true) != 2 {
				t.Errorf("nothing inserted: %q, %d", string(s), e)
			}
		}
	}
}

// R4

func TestCallsDoNotDependOnOthers(t *testing.T) {
	type answer struct {
		right          bool
		text           []rune
		inverse        []api.Edit
		e, f           api.Errno
		low, high      int
		there, thereTo []api.Edit
	}
	ask := func(i int) answer {
		text, l := []rune(given[i].text), given[i].l
		a := answer{right: Right(l, len(text)), low: Place(l, 3, false), high: Place(l, 3, true)}
		a.text, a.e = Apply(text, l)
		a.inverse, a.f = Turn(text, l)
		a.there, a.thereTo = Between(text, []rune("abf")), Between([]rune("abf"), text)
		return a
	}
	equal := func(a, b answer) bool {
		return a.right == b.right && a.e == b.e && a.f == b.f && a.low == b.low && a.high == b.high &&
			slices.Equal(a.text, b.text) && same(a.inverse, b.inverse) && same(a.there, b.there) && same(a.thereTo, b.thereTo)
	}
	first := make([]answer, len(given))
	for i := range given {
		first[i] = ask(i)
	}
	for i := len(given) - 1; i >= 0; i-- {
		if got := ask(i); !equal(got, first[i]) {
			t.Errorf("%q, %v: %v, then %v", given[i].text, given[i].l, first[i], got)
		}
	}
}
