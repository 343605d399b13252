package multi

import (
	"math"
	"slices"
	"testing"

	"stylus/api"
)

// kinds are the kinds of commands.
var kinds = []int{Insert, DelLeft, DelRight, KillWord, KillLine, Transpose}

// sel returns a selection.
func sel(anchor, head int) api.Sel {
	return api.Sel{Anchor: anchor, Head: head}
}

// at returns carets alone.
func at(places ...int) []api.Sel {
	var l []api.Sel
	for _, p := range places {
		l = append(l, sel(p, p))
	}
	return l
}

// of returns selections with places in pairs: where each is anchored, and where
// its caret is.
func of(places ...int) []api.Sel {
	var l []api.Sel
	for i := 0; i+1 < len(places); i += 2 {
		l = append(l, sel(places[i], places[i+1]))
	}
	return l
}

// put returns an edit.
func put(at, del int, ins string) api.Edit {
	return api.Edit{At: at, Del: del, Ins: []rune(ins)}
}

// long returns a text of n runes, of which not all are the same.
func long(n int) []rune {
	t := make([]rune, n)
	for i := range t {
		t[i] = rune('a' + i%7)
	}
	return t
}

// same reports whether two edits are the same; nil runes and no runes are.
func same(a, b api.Edit) bool {
	return a.At == b.At && a.Del == b.Del && slices.Equal(a.Ins, b.Ins)
}

// P14.1

func TestNumbersOfKinds(t *testing.T) {
	for i, kind := range kinds {
		if kind != i+1 {
			t.Errorf("kind %d: %d", i+1, kind)
		}
	}
}

// sample is a command at a selection: its edit, and the caret after it.
type sample struct {
	kind  int
	text  string
	s     api.Sel
	ins   string
	want  api.Edit
	caret int
}

// holdSamples holds what At returns, and what the command comes to at this one
// selection.
func holdSamples(t *testing.T, samples []sample) {
	t.Helper()
	for _, c := range samples {
		e, caret, err := At(c.kind, []rune(c.text), c.s, []rune(c.ins))
		if !same(e, c.want) || caret != c.caret || err != api.OK {
			t.Errorf("At(%d, %q, %v, %q): %v, %d, %d, want %v, %d", c.kind, c.text, c.s, c.ins, e, caret, err, c.want, c.caret)
		}
		text := []rune(c.text)
		ahead, removed, behind := text[:c.want.At], text[c.want.At:c.want.At+c.want.Del], text[c.want.At+c.want.Del:]
		if c.kind == Transpose {
			removed = nil
		}
		d, err := Do(c.kind, text, []api.Sel{c.s}, []rune(c.ins))
		want := string(ahead) + string(c.want.Ins) + string(behind)
		if string(d.Text) != want || !slices.Equal(d.Killed, removed) || !slices.Equal(d.Sels, at(c.caret)) || err != api.OK {
			t.Errorf("Do(%d, %q, %v, %q): %q, %q, %v, %d, want %q", c.kind, c.text, c.s, c.ins, string(d.Text), string(d.Killed), d.Sels, err, want)
		}
	}
}

func TestInsert(t *testing.T) {
	holdSamples(t, []sample{
		{Insert, "", sel(0, 0), "x", put(0, 0, "x"), 1},
		{Insert, "", sel(0, 0), "xyz", put(0, 0, "xyz"), 3},
		{Insert, "", sel(0, 0), "", put(0, 0, ""), 0},
		{Insert, "a", sel(0, 0), "x", put(0, 0, "x"), 1},
		{Insert, "a", sel(1, 1), "x", put(1, 0, "x"), 2},
		{Insert, "ab\ncd", sel(0, 0), "xy", put(0, 0, "xy"), 2},
		{Insert, "ab\ncd", sel(1, 1), "xy", put(1, 0, "xy"), 3},
		{Insert, "ab\ncd", sel(2, 2), "xy", put(2, 0, "xy"), 4},
		{Insert, "ab\ncd", sel(3, 3), "xy", put(3, 0, "xy"), 5},
		{Insert, "ab\ncd", sel(5, 5), "xy", put(5, 0, "xy"), 7},
		{Insert, "ab\ncd", sel(2, 2), "\n", put(2, 0, "\n"), 3},
		{Insert, "ab\ncd", sel(4, 4), "", put(4, 0, ""), 4},
		{Insert, "ab\ncd", sel(5, 5), "", put(5, 0, ""), 5},
		{Insert, "é漢😀", sel(2, 2), "ö漢", put(2, 0, "ö漢"), 4},
	})
}

func TestInsertAtWhatIsNotEmpty(t *testing.T) {
	holdSamples(t, []sample{
		{Insert, "ab\ncd", sel(1, 4), "x", put(1, 3, "x"), 2},
		{Insert, "ab\ncd", sel(4, 1), "x", put(1, 3, "x"), 2},
		{Insert, "ab\ncd", sel(1, 4), "wxyz", put(1, 3, "wxyz"), 5},
		{Insert, "ab\ncd", sel(4, 1), "wxyz", put(1, 3, "wxyz"), 5},
		{Insert, "ab\ncd", sel(1, 4), "", put(1, 3, ""), 1},
		{Insert, "ab\ncd", sel(4, 1), "", put(1, 3, ""), 1},
		{Insert, "ab\ncd", sel(0, 1), "x", put(0, 1, "x"), 1},
		{Insert, "ab\ncd", sel(5, 4), "x", put(4, 1, "x"), 5},
		{Insert, "ab\ncd", sel(0, 5), "xy", put(0, 5, "xy"), 2},
		{Insert, "ab\ncd", sel(5, 0), "", put(0, 5, ""), 0},
		{Insert, "a", sel(0, 1), "a", put(0, 1, "a"), 1},
	})
}

func TestDelLeft(t *testing.T) {
	holdSamples(t, []sample{
		{DelLeft, "", sel(0, 0), "", put(0, 0, ""), 0},
		{DelLeft, "a", sel(0, 0), "", put(0, 0, ""), 0},
		{DelLeft, "a", sel(1, 1), "", put(0, 1, ""), 0},
		{DelLeft, "ab\ncd", sel(0, 0), "", put(0, 0, ""), 0},
		{DelLeft, "ab\ncd", sel(1, 1), "", put(0, 1, ""), 0},
		{DelLeft, "ab\ncd", sel(2, 2), "", put(1, 1, ""), 1},
		{DelLeft, "ab\ncd", sel(3, 3), "", put(2, 1, ""), 2},
		{DelLeft, "ab\ncd", sel(5, 5), "", put(4, 1, ""), 4},
		{DelLeft, "ab\ncd", sel(1, 4), "", put(1, 3, ""), 1},
		{DelLeft, "ab\ncd", sel(4, 1), "", put(1, 3, ""), 1},
		{DelLeft, "ab\ncd", sel(2, 3), "", put(2, 1, ""), 2},
		{DelLeft, "ab\ncd", sel(0, 5), "", put(0, 5, ""), 0},
		{DelLeft, "ab\ncd", sel(5, 0), "", put(0, 5, ""), 0},
	})
}

func TestDelRight(t *testing.T) {
	holdSamples(t, []sample{
		{DelRight, "", sel(0, 0), "", put(0, 0, ""), 0},
		{DelRight, "a", sel(0, 0), "", put(0, 1, ""), 0},
		{DelRight, "a", sel(1, 1), "", put(1, 0, ""), 1},
		{DelRight, "ab\ncd", sel(0, 0), "", put(0, 1, ""), 0},
		{DelRight, "ab\ncd", sel(2, 2), "", put(2, 1, ""), 2},
		{DelRight, "ab\ncd", sel(3, 3), "", put(3, 1, ""), 3},
		{DelRight, "ab\ncd", sel(4, 4), "", put(4, 1, ""), 4},
		{DelRight, "ab\ncd", sel(5, 5), "", put(5, 0, ""), 5},
		{DelRight, "ab\ncd", sel(1, 4), "", put(1, 3, ""), 1},
		{DelRight, "ab\ncd", sel(4, 1), "", put(1, 3, ""), 1},
		{DelRight, "ab\ncd", sel(3, 2), "", put(2, 1, ""), 2},
		{DelRight, "ab\ncd", sel(0, 5), "", put(0, 5, ""), 0},
		{DelRight, "ab\ncd", sel(5, 0), "", put(0, 5, ""), 0},
	})
}

func TestKillWord(t *testing.T) {
	holdSamples(t, []sample{
		{KillWord, "", sel(0, 0), "", put(0, 0, ""), 0},
		{KillWord, "a", sel(0, 0), "", put(0, 1, ""), 0},
		{KillWord, "a", sel(1, 1), "", put(1, 0, ""), 1},
		{KillWord, "ab cd", sel(0, 0), "", put(0, 2, ""), 0},
		{KillWord, "ab cd", sel(1, 1), "", put(1, 1, ""), 1},
		{KillWord, "ab cd", sel(2, 2), "", put(2, 3, ""), 2},
		{KillWord, "ab cd", sel(3, 3), "", put(3, 2, ""), 3},
		{KillWord, "ab cd", sel(5, 5), "", put(5, 0, ""), 5},
		{KillWord, "ab, .cd; ", sel(2, 2), "", put(2, 5, ""), 2},
		{KillWord, "ab, .cd; ", sel(4, 4), "", put(4, 3, ""), 4},
		{KillWord, "ab, .cd; ", sel(7, 7), "", put(7, 2, ""), 7},
		{KillWord, "ab \n\n cd\nef", sel(2, 2), "", put(2, 6, ""), 2},
		{KillWord, "ab \n\n cd\nef", sel(4, 4), "", put(4, 4, ""), 4},
		{KillWord, "ab \n\n cd\nef", sel(8, 8), "", put(8, 3, ""), 8},
		{KillWord, "ab\n\n", sel(2, 2), "", put(2, 2, ""), 2},
		{KillWord, " é_9漢Z!", sel(0, 0), "", put(0, 6, ""), 0},
		{KillWord, "ab cd", sel(1, 2), "", put(1, 1, ""), 1},
		{KillWord, "ab cd", sel(1, 4), "", put(1, 3, ""), 1},
		{KillWord, "ab cd", sel(4, 1), "", put(1, 3, ""), 1},
		{KillWord, "ab cd", sel(0, 5), "", put(0, 5, ""), 0},
		{KillWord, "ab cd", sel(5, 0), "", put(0, 5, ""), 0},
	})
}

func TestKillLine(t *testing.T) {
	holdSamples(t, []sample{
		{KillLine, "", sel(0, 0), "", put(0, 0, ""), 0},
		{KillLine, "a", sel(0, 0), "", put(0, 1, ""), 0},
		{KillLine, "a", sel(1, 1), "", put(1, 0, ""), 1},
		{KillLine, "ab\n\ncd\n", sel(0, 0), "", put(0, 2, ""), 0},
		{KillLine, "ab\n\ncd\n", sel(1, 1), "", put(1, 1, ""), 1},
		{KillLine, "ab\n\ncd\n", sel(2, 2), "", put(2, 1, ""), 2},
		{KillLine, "ab\n\ncd\n", sel(3, 3), "", put(3, 1, ""), 3},
		{KillLine, "ab\n\ncd\n", sel(4, 4), "", put(4, 2, ""), 4},
		{KillLine, "ab\n\ncd\n", sel(6, 6), "", put(6, 1, ""), 6},
		{KillLine, "ab\n\ncd\n", sel(7, 7), "", put(7, 0, ""), 7},
		{KillLine, "\n", sel(0, 0), "", put(0, 1, ""), 0},
		{KillLine, "\n\n\n", sel(1, 1), "", put(1, 1, ""), 1},
		{KillLine, "a b, c", sel(1, 1), "", put(1, 5, ""), 1},
		{KillLine, "a\rb\nc", sel(0, 0), "", put(0, 3, ""), 0},
		{KillLine, "ab\ncd", sel(0, 1), "", put(0, 1, ""), 0},
		{KillLine, "ab\ncd", sel(1, 4), "", put(1, 3, ""), 1},
		{KillLine, "ab\ncd", sel(4, 1), "", put(1, 3, ""), 1},
		{KillLine, "ab\ncd", sel(1, 2), "", put(1, 1, ""), 1},
		{KillLine, "ab\ncd", sel(2, 1), "", put(1, 1, ""), 1},
		{KillLine, "ab\ncd", sel(0, 5), "", put(0, 5, ""), 0},
		{KillLine, "ab\ncd", sel(5, 0), "", put(0, 5, ""), 0},
	})
}

func TestTranspose(t *testing.T) {
	holdSamples(t, []sample{
		{Transpose, "", sel(0, 0), "", put(0, 0, ""), 0},
		{Transpose, "a", sel(0, 0), "", put(0, 0, ""), 0},
		{Transpose, "a", sel(1, 1), "", put(1, 0, ""), 1},
		{Transpose, "ab", sel(0, 0), "", put(0, 0, ""), 0},
		{Transpose, "ab", sel(1, 1), "", put(0, 2, "ba"), 2},
		{Transpose, "ab", sel(2, 2), "", put(0, 2, "ba"), 2},
		{Transpose, "abcd", sel(0, 0), "", put(0, 0, ""), 0},
		{Transpose, "abcd", sel(1, 1), "", put(0, 2, "ba"), 2},
		{Transpose, "abcd", sel(2, 2), "", put(1, 2, "cb"), 3},
		{Transpose, "abcd", sel(3, 3), "", put(2, 2, "dc"), 4},
		{Transpose, "abcd", sel(4, 4), "", put(2, 2, "dc"), 4},
		{Transpose, "ab\ncd", sel(2, 2), "", put(1, 2, "\nb"), 3},
		{Transpose, "ab\ncd", sel(3, 3), "", put(2, 2, "c\n"), 4},
		{Transpose, "ab\n", sel(3, 3), "", put(1, 2, "\nb"), 3},
		{Transpose, "aa", sel(1, 1), "", put(0, 2, "aa"), 2},
	})
}

// Transpose is told by the Head alone.
func TestTransposeAtWhatIsNotEmpty(t *testing.T) {
	holdSamples(t, []sample{
		{Transpose, "abcdef", sel(1, 4), "", put(3, 2, "ed"), 5},
		{Transpose, "abcdef", sel(4, 1), "", put(0, 2, "ba"), 2},
		{Transpose, "abcdef", sel(2, 3), "", put(2, 2, "dc"), 4},
		{Transpose, "abcdef", sel(3, 2), "", put(1, 2, "cb"), 3},
		{Transpose, "abcdef", sel(0, 6), "", put(4, 2, "fe"), 6},
		{Transpose, "abcdef", sel(6, 0), "", put(0, 0, ""), 0},
		{Transpose, "abcdef", sel(5, 6), "", put(4, 2, "fe"), 6},
		{Transpose, "a", sel(0, 1), "", put(1, 0, ""), 1},
		{Transpose, "a", sel(1, 0), "", put(0, 0, ""), 0},
	})
}

// The other kinds insert nothing, whatever the runes are.
func TestRunesForOtherKinds(t *testing.T) {
	holdSamples(t, []sample{
		{DelLeft, "ab cd", sel(2, 2), "xy", put(1, 1, ""), 1},
		{DelLeft, "ab cd", sel(0, 0), "xy", put(0, 0, ""), 0},
		{DelLeft, "ab cd", sel(1, 4), "xy", put(1, 3, ""), 1},
		{DelRight, "ab cd", sel(2, 2), "xy", put(2, 1, ""), 2},
		{DelRight, "ab cd", sel(5, 5), "xy", put(5, 0, ""), 5},
		{DelRight, "ab cd", sel(4, 1), "xy", put(1, 3, ""), 1},
		{KillWord, "ab cd", sel(2, 2), "xy", put(2, 3, ""), 2},
		{KillWord, "ab cd", sel(5, 5), "xy", put(5, 0, ""), 5},
		{KillWord, "ab cd", sel(1, 4), "xy", put(1, 3, ""), 1},
		{KillLine, "ab cd", sel(2, 2), "xy", put(2, 3, ""), 2},
		{KillLine, "ab cd", sel(5, 5), "xy", put(5, 0, ""), 5},
		{KillLine, "ab cd", sel(4, 1), "xy", put(1, 3, ""), 1},
		{Transpose, "ab cd", sel(1, 1), "xy", put(0, 2, "ba"), 2},
		{Transpose, "ab cd", sel(0, 0), "xy", put(0, 0, ""), 0},
	})
}

func TestAtInLongTexts(t *testing.T) {
	text := slices.Concat(long(3000), []rune(" "), long(4000))
	for _, c := range []struct {
		kind  int
		s     api.Sel
		want  api.Edit
		caret int
	}{
		{Insert, sel(5000, 5000), put(5000, 0, "x"), 5001},
		{Insert, sel(6000, 10), put(10, 5990, "x"), 11},
		{Insert, sel(0, 7001), put(0, 7001, "x"), 1},
		{DelLeft, sel(7001, 7001), put(7000, 1, ""), 7000},
		{DelRight, sel(6999, 6999), put(6999, 1, ""), 6999},
		{KillWord, sel(1000, 1000), put(1000, 2000, ""), 1000},
		{KillWord, sel(3000, 3000), put(3000, 4001, ""), 3000},
		{KillLine, sel(1, 1), put(1, 7000, ""), 1},
		{Transpose, sel(3000, 3000), put(2999, 2, " "+string(text[2999])), 3001},
		{Transpose, sel(0, 7001), put(6999, 2, string(text[7000])+string(text[6999])), 7001},
	} {
		e, caret, err := At(c.kind, text, c.s, []rune("x"))
		if !same(e, c.want) || caret != c.caret || err != api.OK {
			t.Errorf("At(%d, %v): %v, %d, %d, want %v, %d", c.kind, c.s, e, caret, err, c.want, c.caret)
		}
	}
}

// otherKinds are numbers that are none of the kinds.
var otherKinds = []int{0, 7, -1, 8, -6, 9, 16, 51, 1 << 8, 1<<8 + 1, 1 << 32, 1<<32 + 1, 1<<32 + 6, -1 << 32, math.MinInt, math.MinInt + 1, math.MaxInt - 1, math.MaxInt}

// holdErrArg holds that At returns ErrArg, and nothing beside it.
func holdErrArg(t *testing.T, kind int, text []rune, s api.Sel, ins []rune) {
	t.Helper()
	if e, caret, err := At(kind, text, s, ins); !same(e, api.Edit{}) || caret != 0 || err != api.ErrArg {
		t.Errorf("At(%d, %q, %v, %d): %v, %d, %d", kind, text, s, ins, e, caret, err)
	}
}

// holdNothingDone holds that Do returns an error, and nothing beside it.
func holdNothingDone(t *testing.T, kind int, text []rune, l []api.Sel, ins []rune, want api.Errno) {
	t.Helper()
	if d, e := Do(kind, text, l, ins); len(d.Text) > 0 || len(d.Killed) > 0 || len(d.Sels) > 0 || e != want {
		t.Errorf("Do(%d) of %d runes at %v, %d inserted: %d, %d, %v, %d, want %d", kind, len(text), l, len(ins), len(d.Text), len(d.Killed), d.Sels, e, want)
	}
}

func TestOtherKinds(t *testing.T) {
	for _, kind := range otherKinds {
		for _, text := range []string{"", "a", "ab cd\nef"} {
			for _, ins := range []string{"", "x"} {
				holdErrArg(t, kind, []rune(text), sel(0, 0), []rune(ins))
				holdErrArg(t, kind, []rune(text), sel(0, len(text)), []rune(ins))
				holdNothingDone(t, kind, []rune(text), nil, []rune(ins), api.ErrArg)
				holdNothingDone(t, kind, []rune(text), at(0, 1), []rune(ins), api.ErrArg)
			}
		}
	}
}

func TestPlacesOutsideTheText(t *testing.T) {
	for _, text := range []string{"", "a", "ab cd", string(long(2500))} {
		n := len(text)
		for _, outside := range []int{-1, -2, -n - 1, math.MinInt32, math.MinInt, math.MinInt + 1, n + 1, n + 2, 2*n + 1, math.MaxInt32, 1 << 31, 1 << 40, math.MaxInt - 1, math.MaxInt} {
			for _, kind := range kinds {
				for _, ins := range []string{"", "x"} {
					for _, inside := range []int{0, n / 2, n} {
						holdErrArg(t, kind, []rune(text), sel(outside, inside), []rune(ins))
						holdErrArg(t, kind, []rune(text), sel(inside, outside), []rune(ins))
					}
					for _, other := range []int{outside, -1, n + 1, math.MinInt, math.MaxInt} {
						holdErrArg(t, kind, []rune(text), sel(outside, other), []rune(ins))
						holdErrArg(t, kind, []rune(text), sel(other, outside), []rune(ins))
					}
				}
			}
		}
		for _, kind := range kinds {
			for _, s := range of(0, 0, n, n, 0, n, n, 0) {
				if _, _, e := At(kind, []rune(text), s, nil); e != api.OK {
					t.Errorf("At(%d, %v) of %d runes: %d", kind, s, n, e)
				}
			}
		}
	}
}

// A place is one of runes, not of bytes.
func TestPlacesAreOfRunes(t *testing.T) {
	for _, kind := range kinds {
		holdErrArg(t, kind, []rune("漢é"), sel(3, 3), nil)
		if _, _, e := At(kind, []rune("漢é"), sel(2, 2), nil); e != api.OK {
			t.Errorf("At(%d): %d", kind, e)
		}
	}
}

var (
	validRunes   = []rune{0, 1, 9, 10, 27, 31, 127, 128, 255, 55294, 55295, 57344, 57345, 65533, 65534, 65535, 65536, 1114110, 1114111}
	invalidRunes = []rune{math.MinInt32, math.MinInt32 + 1, -'a', -2, -1, 55296, 55297, 56319, 56320, 57342, 57343, 1114112, 1114113, 2000000, math.MaxInt32 - 1, math.MaxInt32}
)

func TestInsertedRunes(t *testing.T) {
	within := func(r rune) [][]rune {
		return [][]rune{{r}, {r, 'x', 'y'}, {'x', r, 'y'}, {'x', 'y', r}}
	}
	text := []rune("abc d")
	for _, kind := range kinds {
		for _, s := range of(0, 0, 2, 2, 5, 5, 1, 3, 5, 0) {
			for _, r := range invalidRunes {
				for _, ins := range within(r) {
					holdErrArg(t, kind, text, s, ins)
					holdErrArg(t, kind, nil, sel(0, 0), ins)
					holdNothingDone(t, kind, text, []api.Sel{s}, ins, api.ErrArg)
					holdNothingDone(t, kind, nil, nil, ins, api.ErrArg)
				}
			}
			for _, r := range validRunes {
				for _, ins := range within(r) {
					_, _, e := At(kind, text, s, ins)
					if _, f := Do(kind, text, []api.Sel{s}, ins); e != api.OK || f != api.OK {
						t.Errorf("kind %d, %d inserted: %d, %d", kind, ins, e, f)
					}
				}
			}
		}
	}
	for _, r := range validRunes {
		e, caret, _ := At(Insert, text, sel(1, 2), []rune{r, 'x', r})
		if want := (api.Edit{At: 1, Del: 1, Ins: []rune{r, 'x', r}}); !same(e, want) || caret != 4 {
			t.Errorf("%d inserted: %v, %d", r, e, caret)
		}
	}
}

// Only what is inserted must be valid, not the text.
func TestTextsThatAreNotValid(t *testing.T) {
	text := []rune{-1, 55296, 10, math.MinInt32, ' ', 1114112, 57343, math.MaxInt32}
	for _, c := range []struct {
		kind         int
		s            api.Sel
		want         api.Edit
		caret        int
		text, killed []rune
	}{
		{Insert, sel(1, 1), put(1, 0, "x"), 2,
			[]rune{-1, 'x', 55296, 10, math.MinInt32, ' ', 1114112, 57343, math.MaxInt32}, nil},
		{Insert, sel(0, 7), put(0, 7, "x"), 1,
			[]rune{'x', math.MaxInt32}, text[:7]},
		{DelLeft, sel(1, 1), put(0, 1, ""), 0, text[1:], text[:1]},
		{DelRight, sel(7, 7), put(7, 1, ""), 7, text[:7], text[7:]},
		{KillWord, sel(0, 0), put(0, 2, ""), 0, text[2:], text[:2]},
		{KillWord, sel(2, 2), put(2, 6, ""), 2, text[:2], text[2:]},
		{KillLine, sel(0, 0), put(0, 2, ""), 0, text[2:], text[:2]},
		{KillLine, sel(3, 3), put(3, 5, ""), 3, text[:3], text[3:]},
		{Transpose, sel(1, 1), api.Edit{At: 0, Del: 2, Ins: []rune{55296, -1}}, 2,
			[]rune{55296, -1, 10, math.MinInt32, ' ', 1114112, 57343, math.MaxInt32}, nil},
		{Transpose, sel(2, 6), api.Edit{At: 5, Del: 2, Ins: []rune{57343, 1114112}}, 7,
			[]rune{-1, 55296, 10, math.MinInt32, ' ', 57343, 1114112, math.MaxInt32}, nil},
		{Transpose, sel(8, 8), api.Edit{At: 6, Del: 2, Ins: []rune{math.MaxInt32, 57343}}, 8,
			[]rune{-1, 55296, 10, math.MinInt32, ' ', 1114112, math.MaxInt32, 57343}, nil},
	} {
		e, caret, err := At(c.kind, text, c.s, []rune("x"))
		if !same(e, c.want) || caret != c.caret || err != api.OK {
			t.Errorf("At(%d, %v): %v, %d, %d", c.kind, c.s, e, caret, err)
		}
		d, err := Do(c.kind, text, []api.Sel{c.s}, []rune("x"))
		if !slices.Equal(d.Text, c.text) || !slices.Equal(d.Killed, c.killed) || !slices.Equal(d.Sels, at(c.caret)) || err != api.OK {
			t.Errorf("Do(%d, %v): %v, %d", c.kind, c.s, d, err)
		}
	}
	// The last two exchange 57343 with what follows it, and back.
	d, err := Do(Transpose, text, at(1, 2, 7, 8), nil)
	want := []rune{10, -1, 55296, math.MinInt32, ' ', 1114112, 57343, math.MaxInt32}
	if !slices.Equal(d.Text, want) || !slices.Equal(d.Sels, at(2, 3, 6, 8)) || err != api.OK {
		t.Errorf("Transpose: %v, %d", d, err)
	}
}
