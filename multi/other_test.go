package multi

import (
	"math"
	"slices"
	"testing"

	"stylus/api"
)

var numbers = []int{math.MinInt, math.MinInt + 1, math.MinInt32, -2, -1, 0, 1, 2, 3, 4, 5, 6, 7, 2000, math.MaxInt32, 1 << 31, 1<<31 + 1, 1 << 33, math.MaxInt - 1, math.MaxInt}

var oddTexts = [][]rune{
	nil,
	{},
	make([]rune, 0, 4),
	{'a'},
	{10},
	{-1, 10, math.MinInt32, math.MaxInt32},
	{0x110000, 0xD800, 10, 0xFFFD, 0x10FFFF},
	[]rune("ab cd\n\nef"),
	long(2000),
	long(2001),
}

// R1

func TestAnyNumbers(t *testing.T) {
	var all []api.Sel
	for _, anchor := range numbers {
		for _, head := range numbers {
			all = append(all, sel(anchor, head))
		}
	}
	for _, text := range oddTexts {
		for _, ins := range oddTexts[:9] {
			for _, kind := range numbers {
				holdAny(t, kind, text, all[0], all[1], ins)
			}
			for _, s := range all {
				holdAny(t, 1+len(ins)%6, text, s, all[0], ins)
			}
		}
		for i, s := range all {
			for _, kind := range kinds {
				holdAny(t, kind, text, s, all[len(all)-1-i], []rune("xy"))
			}
		}
	}
}

// holdAny holds what is promised for any arguments.
func holdAny(t *testing.T, kind int, text []rune, s, u api.Sel, ins []rune) {
	t.Helper()
	l := []api.Sel{s, u}
	invalid := func(r rune) bool { return r < 0 || 0xD800 <= r && r <= 0xDFFF || r > 0x10FFFF }
	if kind < 1 || kind > 6 || slices.ContainsFunc(ins, invalid) {
		holdErrArg(t, kind, text, s, ins)
		holdNothingDone(t, kind, text, l, ins, api.ErrArg)
		return
	}
	holdAt(t, kind, text, s, ins)
	holdDo(t, kind, text, l, ins)
}

func TestLongArguments(t *testing.T) {
	const n = 300000
	text := slices.Repeat([]rune("a "), n)
	var l []api.Sel
	for i := range n {
		l = append(l, sel(2*i, 2*i))
	}
	for _, kind := range kinds {
		holdNothingDone(t, kind, text, l, nil, api.ErrFull)
		holdNothingDone(t, kind, text[:100], l, append(slices.Clone(text), -1), api.ErrArg)
		holdAt(t, kind, text, sel(n, n), text)
		holdAt(t, kind, text, sel(3, 2*n), text)
		holdDo(t, kind, text[:500], l, []rune("xy"))
		holdDo(t, kind, text[:2000], l, nil)
	}
	holdNothingDone(t, Insert, nil, l, text, api.ErrFull)
	holdNothingDone(t, Insert, text[:2000], l, []rune("x"), api.ErrFull)
}

// R2

func TestNothingBesideErrors(t *testing.T) {
	text := []rune("ab cd\nef")
	for _, kind := range kinds {
		for _, s := range of(-1, -1, 0, 9, 9, 0, 9, 9) {
			holdErrArg(t, kind, text, s, []rune("x"))
		}
		for _, s := range of(0, 0, 2, 2, 1, 4, 4, 1, 8, 8, 0, 8) {
			holdErrArg(t, kind, text, s, []rune{'x', -1})
			holdErrArg(t, kind+6, text, s, []rune("x"))
		}
		// What is there by the time of the error is not told.
		for _, l := range [][]api.Sel{nil, of(0, 4, 9, 12), of(0, 9, 20, 20), of(3, 1, 5, 5, 2002, 9)} {
			holdNothingDone(t, kind, long(2002), l, []rune("x"), api.ErrFull)
			holdNothingDone(t, kind, long(2000), l, []rune{'x', -1}, api.ErrArg)
			holdNothingDone(t, kind-6, long(2000), l, []rune("x"), api.ErrArg)
		}
	}
	holdNothingDone(t, Insert, long(2000), of(0, 0, 3, 9), []rune("wxyz"), api.ErrFull)
	holdNothingDone(t, Insert, long(2000), of(0, 9, 12, 12, 20, 22), []rune("xy"), api.ErrFull)
	holdNothingDone(t, Insert, long(2000), of(0, 9, 12, 12), []rune("x"), api.ErrFull)
}

// R3

// roomy returns a list with room behind its end, and all of its memory.
func roomy[T any](l []T, behind ...T) (list, all []T) {
	all = append(slices.Clone(l), behind...)
	return all[:len(l)], all
}

// given has arguments, of which some are not valid.
var given = []struct {
	text string
	l    []api.Sel
	ins  string
}{
	{"", nil, ""},
	{"", of(0, 0), "xyz"},
	{"abcdef", nil, "x"},
	{"abcdef", of(0, 0, 2, 2, 3, 3, 6, 6), ""},
	{"abcdef", of(0, 0, 2, 2, 3, 3, 6, 6), "xy"},
	{"abcdef", of(6, 4, 2, 1), "xy"},
	{"ab cd ef\ngh", of(1, 1, 2, 2, 4, 5, 9, 9), "x"},
	{"ab cd ef\ngh", of(9, 2, 3, 3, 90, -3), "漢\n"},
	{"ab cd ef\ngh", of(0, 11), ""},
	{string(long(1999)), of(3, 3, 9, 7, 60, 60), "xyz"},
	{"abc", of(1, 1), string(long(3000))},
}

func TestArgumentsStay(t *testing.T) {
	for _, c := range given {
		text, allText := roomy([]rune(c.text), 'g', ' ', 10, 'h', 'i')
		l, all := roomy(c.l, of(71, 72, 73, 74, 75, 76)...)
		ins, allIns := roomy([]rune(c.ins), 'j', 'k', 10)
		wantText, want, wantIns := slices.Clone(allText), slices.Clone(all), slices.Clone(allIns)
		for kind := 0; kind <= 7; kind++ {
			Do(kind, text, l, ins)
			Do(kind, text, l, text)
			for _, s := range append(of(-1, 0, 0, 99), l...) {
				At(kind, text, s, ins)
			}
		}
		if !slices.Equal(allText, wantText) || !slices.Equal(all, want) || !slices.Equal(allIns, wantIns) {
			t.Errorf("%q, %v, %q: became %q, %v, %q", c.text, c.l, c.ins, string(allText), all, string(allIns))
		}
	}
}

// What stands behind the end of a text is not looked at.
func TestRunesBehindTheEnd(t *testing.T) {
	for _, behind := range []string{"xyz", "  x", "\n\nx"} {
		text, _ := roomy([]rune("ab cd"), []rune(behind)...)
		for _, kind := range kinds {
			for _, s := range everySel(-1, 7) {
				holdAt(t, kind, text, s, []rune("uv"))
				holdDo(t, kind, text, []api.Sel{s}, []rune("uv"))
			}
		}
	}
}

// spoil writes over all memory of lists.
func spoil[T any](with T, lists ...[]T) {
	for _, l := range lists {
		l = l[:cap(l)]
		for i := range l {
			l[i] = with
		}
	}
}

func clone(d Done) Done {
	return Done{Text: slices.Clone(d.Text), Killed: slices.Clone(d.Killed), Sels: slices.Clone(d.Sels)}
}

func TestResultsAreNewMemory(t *testing.T) {
	for _, c := range given {
		for _, kind := range kinds {
			text, allText := roomy([]rune(c.text), 'g', ' ', 10, 'h', 'i')
			l, all := roomy(c.l, of(71, 72, 73, 74, 75, 76)...)
			ins, allIns := roomy([]rune(c.ins), 'j', 'k', 10)
			wantText, want, wantIns := slices.Clone(allText), slices.Clone(all), slices.Clone(allIns)
			one, _ := Do(kind, text, l, ins)
			two, _ := Do(kind, text, l, ins)
			wantTwo := clone(two)
			spoil(-77, one.Text, one.Killed)
			spoil(sel(-77, -78), one.Sels)
			if !slices.Equal(allText, wantText) || !slices.Equal(all, want) || !slices.Equal(allIns, wantIns) || !sameDone(two, wantTwo) {
				t.Errorf("%d, %q, %v, %q: a result shares memory", kind, c.text, c.l, c.ins)
			}
			spoil(-77, allText, allIns)
			spoil(sel(-77, -78), all)
			if !sameDone(two, wantTwo) {
				t.Errorf("%d, %q, %v, %q: a result changes with its arguments", kind, c.text, c.l, c.ins)
			}
		}
	}
}

func TestTextAndKilledAreApart(t *testing.T) {
	for _, c := range given {
		for _, kind := range kinds {
			d, _ := Do(kind, []rune(c.text), c.l, []rune(c.ins))
			want := clone(d)
			spoil(-77, d.Killed)
			if !slices.Equal(d.Text, want.Text) {
				t.Errorf("%d, %q, %v, %q: the text changes with what is killed", kind, c.text, c.l, c.ins)
			}
			d, _ = Do(kind, []rune(c.text), c.l, []rune(c.ins))
			spoil(-77, d.Text)
			if !slices.Equal(d.Killed, want.Killed) {
				t.Errorf("%d, %q, %v, %q: what is killed changes with the text", kind, c.text, c.l, c.ins)
			}
		}
	}
}

func TestEditsAreNewMemory(t *testing.T) {
	for _, c := range given {
		for _, kind := range kinds {
			for _, s := range everySel(0, min(6, len([]rune(c.text)))) {
				text, allText := roomy([]rune(c.text), 'g', ' ', 10)
				ins, allIns := roomy([]rune(c.ins), 'j', 'k', 10)
				wantText, wantIns := slices.Clone(allText), slices.Clone(allIns)
				one, _, _ := At(kind, text, s, ins)
				two, _, _ := At(kind, text, s, ins)
				want := slices.Clone(two.Ins)
				spoil(-77, one.Ins)
				if !slices.Equal(allText, wantText) || !slices.Equal(allIns, wantIns) || !slices.Equal(two.Ins, want) {
					t.Errorf("At(%d, %q, %v, %q): the edit shares memory", kind, c.text, s, c.ins)
				}
				spoil(-77, allText, allIns)
				if !slices.Equal(two.Ins, want) {
					t.Errorf("At(%d, %q, %v, %q): the edit changes with its arguments", kind, c.text, s, c.ins)
				}
			}
		}
	}
}

// What is inserted may be a part of the text itself.
func TestArgumentsThatShareMemory(t *testing.T) {
	text := []rune("abcd")
	d, e := Do(Insert, text, of(0, 1, 2, 3, 4, 4), text)
	if string(d.Text) != "abcdbabcddabcd" || string(d.Killed) != "ac" || string(text) != "abcd" || e != api.OK {
		t.Errorf("Do: %q, %q, %d", string(d.Text), string(d.Killed), e)
	}
	d, e = Do(Insert, text, at(1, 3), text[1:3])
	if string(d.Text) != "abcbcbcd" || string(text) != "abcd" || e != api.OK {
		t.Errorf("Do: %q, %d", string(d.Text), e)
	}
}

func TestNilAndEmptyAreTheSame(t *testing.T) {
	none := make([]rune, 0, 3)
	for kind := -1; kind <= 8; kind++ {
		for _, s := range everySel(-1, 4) {
			a, p, e := At(kind, []rune("abc"), s, nil)
			b, q, f := At(kind, []rune("abc"), s, none)
			if !same(a, b) || p != q || e != f {
				t.Errorf("At(%d, %v), nothing inserted: %v, %d, %d; %v, %d, %d", kind, s, a, p, e, b, q, f)
			}
			a, p, e = At(kind, nil, s, []rune("x"))
			b, q, f = At(kind, none, s, []rune("x"))
			if !same(a, b) || p != q || e != f {
				t.Errorf("At(%d, %v) of no text: %v, %d, %d; %v, %d, %d", kind, s, a, p, e, b, q, f)
			}
		}
		for _, text := range oddTexts {
			for _, l := range [][]api.Sel{at(0), at(0, 2, 3), of(1, 9)} {
				a, e := Do(kind, text, l, nil)
				b, f := Do(kind, text, l, none)
				if !sameDone(a, b) || e != f {
					t.Errorf("Do(%d, %q, %v), nothing inserted: %v, %d; %v, %d", kind, text, l, a, e, b, f)
				}
			}
			a, e := Do(kind, text, nil, []rune("x"))
			b, f := Do(kind, text, make([]api.Sel, 0, 3), []rune("x"))
			if !sameDone(a, b) || e != f {
				t.Errorf("Do(%d, %q) of none: %v, %d; %v, %d", kind, text, a, e, b, f)
			}
		}
		a, e := Do(kind, nil, at(0, 2), []rune("x"))
		b, f := Do(kind, none, at(0, 2), []rune("x"))
		if !sameDone(a, b) || e != f {
			t.Errorf("Do(%d) of no text: %v, %d; %v, %d", kind, a, e, b, f)
		}
	}
}

// R4

func TestCallsDoNotDependOnOthers(t *testing.T) {
	type answer struct {
		done   Done
		edits  []api.Edit
		carets []int
		errors []api.Errno
	}
	ask := func(kind, i int) answer {
		var a answer
		var e api.Errno
		text, ins := []rune(given[i].text), []rune(given[i].ins)
		a.done, e = Do(kind, text, given[i].l, ins)
		a.errors = append(a.errors, e)
		for _, s := range everySel(-1, 7) {
			x, caret, e := At(kind, text, s, ins)
			a.edits, a.carets, a.errors = append(a.edits, x), append(a.carets, caret), append(a.errors, e)
		}
		return a
	}
	equal := func(a, b answer) bool {
		return sameDone(a.done, b.done) && slices.EqualFunc(a.edits, b.edits, same) && slices.Equal(a.carets, b.carets) && slices.Equal(a.errors, b.errors)
	}
	var first []answer
	for i := range given {
		for kind := 0; kind <= 7; kind++ {
			first = append(first, ask(kind, i))
		}
	}
	next := len(first)
	for i := len(given) - 1; i >= 0; i-- {
		for kind := 7; kind >= 0; kind-- {
			next--
			if got := ask(kind, i); !equal(got, first[next]) {
				t.Errorf("%d, %v: %v, then %v", kind, given[i], first[next], got)
			}
		}
	}
}
