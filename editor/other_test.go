package editor

import (
	"bytes"
	"math"
	"slices"
	"strings"
	"testing"

	"stylus/api"
	"stylus/expand"
	"stylus/keys"
	"stylus/session"
)

// zero is no session.
var zero session.State

// R1

func TestNilEditor(t *testing.T) {
	var e *Editor
	if err := e.Name([]rune("a"), nil); err != api.ErrArg {
		t.Errorf("Name: %d", err)
	}
	if err := e.Value([]rune("a"), nil); err != api.ErrArg {
		t.Errorf("Value: %d", err)
	}
	for _, k := range []keys.Key{{}, {Kind: keys.Char, Rune: 'a'}, {Kind: keys.Tab}, {Kind: keys.Char, Rune: 'z', Mods: 4}} {
		if code := e.Do(k); code != 0 {
			t.Errorf("Do(%v): %d", k, code)
		}
	}
	for _, b := range []string{"", "a", "\x1b", "\t"} {
		if l := e.Feed([]byte(b)); l != nil {
			t.Errorf("Feed(%q): %q", b, l)
		}
		if l := e.Flush(); l != nil {
			t.Errorf("Flush: %q", l)
		}
	}
	for _, side := range [][2]int{{1, 1}, {0, 0}, {60, 60}, {-1, 61}} {
		if b, err := e.Size(side[0], side[1]); b != nil || err != api.ErrArg {
			t.Errorf("Size: %q, %d", b, err)
		}
	}
	if s := e.See(); !sameSeen(s, Seen{}) {
		t.Errorf("See: %v", s)
	}
	if x, is := e.Open(); is || !sameSession(x, zero) {
		t.Errorf("Open: %v, %t", x, is)
	}
}

// An editor that New did not return has nothing, and does not panic.
func TestEditorWithoutNew(t *testing.T) {
	for _, k := range commandKeys {
		e := &Editor{}
		e.Name([]rune("a"), []rune("b"))
		e.Value([]rune("a"), []rune("b"))
		e.Feed([]byte(k))
		for _, key := range keys.New().Feed([]byte(k)) {
			e.Do(key)
		}
		e.Flush()
		e.Size(3, 3)
		e.Feed([]byte("a" + k))
		if s := e.See(); len(s.Text) != 0 || len(s.Line) != 0 {
			t.Errorf("%q: %v", k, s)
		}
		if _, is := e.Open(); is {
			t.Errorf("%q: a session", k)
		}
	}
}

// Any keys, runes and bytes

func TestAnyKeys(t *testing.T) {
	parallel(t, 4, func(t *testing.T, part int) {
		l := lot(part + 40)
		kinds := []int{math.MinInt, -1, 0, 1, 1, 1, 1, 2, 3, 4, 5, 6, 7, 8, 9, 10, 11, 12, 13, math.MaxInt}
		runes := []rune{math.MinInt32, -1, 0, 10, 27, 32, 'a', 'b', 'c', 'd', 'e', 'f', 'k', 'n', 'p', 'r', 't', 'x', 'y', 'z', '<', '>', 127, 0x301, 0x4E2D, 0xD800, 0xFFFD, 0x10FFFF, 0x110000, math.MaxInt32}
		mods := []int{math.MinInt, -1, 0, 0, 0, 1, 2, 2, 3, 4, 4, 5, 6, 7, 8, math.MaxInt}
		for range 40 {
			p := newPairOf(t, 1+l.draw(60), 1+l.draw(60)).allNames()
			for range 200 {
				p.both(keys.Key{Kind: kinds[l.draw(len(kinds))], Rune: runes[l.draw(len(runes))], Mods: mods[l.draw(len(mods))]})
			}
			p.feed("")
			p.thereAndBack()
		}
	})
}

func TestAnyBytes(t *testing.T) {
	parallel(t, 4, func(t *testing.T, part int) {
		l := lot(part + 80)
		for range 60 {
			p := newPairOf(t, 1+l.draw(9), 1+l.draw(20)).allNames()
			for range 12 {
				b := make([]byte, l.draw(40))
				for i := range b {
					b[i] = byte(l.draw(256))
					if l.draw(3) == 0 {
						b[i] = "\x1b[O;123456ABCDHFZ~ \t\r\n\x1a\x18fnmi"[l.draw(28)]
					}
				}
				p.feed(string(b))
				if l.draw(4) == 0 {
					p.flush()
				}
			}
			p.thereAndBack()
		}
	})
}

// Each valid rune is typed; what Find gives no command is not.
func TestAnyRunes(t *testing.T) {
	e := started(t, 3, 9)
	var want []rune
	for r := rune(-100); r < 0x110100; r += 1 + r/700 {
		for _, near := range []rune{r, r ^ 1} {
			if len(want) > 1990 {
				e.Feed([]byte(abort))
				want = nil
			}
			code := e.Do(keys.Key{Kind: keys.Char, Rune: near})
			if near >= 32 && near != 127 && wordsValid([]rune{near}) {
				want = append(want, near)
			}
			if s := e.See(); code != 0 || !slices.Equal(s.Text, want) {
				t.Fatalf("%d: %d, %d runes, want %d", near, code, len(s.Text), len(want))
			}
		}
	}
	e.Feed(nil)
}

func TestLongInputs(t *testing.T) {
	e := started(t, 5, 9)
	e.Feed(bytes.Repeat([]byte("a\x1b[D\x1b[C"), 3000))
	if s := e.See(); len(s.Text) != 2000 || s.Code != 0 {
		t.Errorf("%d runes, %d", len(s.Text), s.Code)
	}
	e.Feed([]byte(abort))
	e.Feed(bytes.Repeat([]byte("ab\x7f\r"), 5000))
	if s := e.See(); string(s.Line) != "a" || s.Lines != 5000 {
		t.Errorf("%q, %d", string(s.Line), s.Lines)
	}
	e.Feed(bytes.Repeat([]byte("\x1b["), 100000))
	e.Feed(bytes.Repeat([]byte("\x00\x0f"), 100000))
	if s := e.See(); len(s.Text) != 0 {
		t.Errorf("%d runes", len(s.Text))
	}
	if err := e.Name(slices.Repeat([]rune("a"), 1000000), slices.Repeat([]rune("a"), 1000000)); err != api.ErrArg {
		t.Errorf("Name: %d", err)
	}
	if err := e.Value([]rune("X"), slices.Repeat([]rune("a"), 1000000)); err != api.OK {
		t.Errorf("Value: %d", err)
	}
	e.Name([]rune("n"), []rune("$X"))
	e.Name([]rune("m"), []rune("${X/b//}"))
	if e.Feed([]byte("n\t")); e.See().Code != int(api.ErrFull) {
		t.Errorf("%d", e.See().Code)
	}
	if e.Feed([]byte("\x03m\t")); e.See().Code != 0 || len(e.See().Text) != api.MaxText {
		t.Errorf("%d", e.See().Code)
	}
}

func TestNilAndEmptyLists(t *testing.T) {
	for _, none := range [][]rune{nil, {}, make([]rune, 0, 3)} {
		e := started(t, 2, 4)
		if err := e.Name(none, []rune("a")); err != api.ErrArg {
			t.Errorf("Name: %d", err)
		}
		if err := e.Name([]rune("n"), none); err != api.OK {
			t.Errorf("Name: %d", err)
		}
		if err := e.Value(none, none); err != api.OK {
			t.Errorf("Value: %d", err)
		}
		e.Value([]rune("X"), none)
		e.Name([]rune("x"), []rune("<${X:a}>"))
		e.Feed([]byte("n\tx\t"))
		if s := e.See(); string(s.Text) != "<>" {
			t.Errorf("%q", string(s.Text))
		}
	}
	for _, none := range [][]byte{nil, {}, make([]byte, 0, 3)} {
		e := started(t, 2, 4)
		e.Feed([]byte("a\x1b[1;"))
		if b := e.Feed(none); len(b) != 0 {
			t.Errorf("%q", b)
		}
		e.Feed([]byte("2D"))
		if s := e.See(); len(s.Sels) != 1 || s.Sels[0] != (api.Sel{Anchor: 1}) {
			t.Errorf("%v", s.Sels)
		}
	}
}

// R2

func TestNothingBesideAnError(t *testing.T) {
	for _, side := range [][2]int{{0, 1}, {1, 0}, {61, 1}, {1, 61}} {
		if e, err := New(side[0], side[1]); e != nil || err != api.ErrArg {
			t.Errorf("New(%v): %v, %d", side, e, err)
		}
		e := started(t, 1, 1)
		if b, err := e.Size(side[0], side[1]); b != nil || err != api.ErrArg {
			t.Errorf("Size(%v): %q, %d", side, b, err)
		}
	}
}

// R3

// roomy returns a list with room behind its end, and all of its memory.
func roomy[T any](l []T, more ...T) (list, all []T) {
	all = append(slices.Clone(l), more...)
	return all[:len(l)], all
}

func TestArgumentsStayAndAreNotKept(t *testing.T) {
	e, as := started(t, 3, 20), started(t, 3, 20)
	give := func(name, text string, call, same func(name, text []rune) api.Errno) {
		n, allN := roomy([]rune(name), 'x', 'y')
		x, allX := roomy([]rune(text), 'x', 'y')
		call(n, x)
		same([]rune(name), []rune(text))
		if string(allN) != name+"xy" || string(allX) != text+"xy" {
			t.Errorf("%q, %q: became %q, %q", name, text, string(allN), string(allX))
		}
		for _, l := range [][]rune{allN, allX} {
			for i := range l {
				l[i] = -7
			}
		}
	}
	give("fn", "a${1:bc}${2|d,ef|}${1/b/x/}$X$0", e.Name, as.Name)
	give("X", "pq", e.Value, as.Value)
	give("Y", "rs", e.Value, as.Value)
	give("", "", e.Value, as.Value)
	give("n", "$Y", e.Name, as.Name)
	for _, s := range []string{"fn", tab, "a", "\xc3", "\xa9b\x1b[1;", "2D", choice, tab, choice, tab, " n" + tab, undone, killLine, yank, enter, older, "\x1b"} {
		b, all := roomy([]byte(s), 'x', 'y')
		got := e.Feed(b)
		want := as.Feed([]byte(s))
		if string(all) != s+"xy" {
			t.Errorf("%q became %q", s, all)
		}
		for i := range all {
			all[i] = 'q'
		}
		if !bytes.Equal(got, want) || !sameSeen(e.See(), as.See()) {
			t.Errorf("%q: %v, want %v", s, e.See(), as.See())
		}
	}
	if !bytes.Equal(e.Flush(), as.Flush()) || !sameSeen(e.See(), as.See()) {
		t.Errorf("%v, want %v", e.See(), as.See())
	}
}

// spoil writes over all memory of a list.
func spoil[T any](l []T, x T) {
	l = l[:cap(l)]
	for i := range l {
		l[i] = x
	}
}

func spoilSeen(s Seen) {
	spoil(s.Text, -7)
	spoil(s.Sels, api.Sel{Anchor: -7, Head: -7})
	spoil(s.Spans, api.Span{From: -7, To: -7})
	spoil(s.Line, -7)
}

func spoilSession(x session.State) {
	spoil(x.Text, -7)
	for _, f := range x.Fields {
		for _, c := range f.Choices {
			spoil(c, -7)
		}
		spoil(f.Choices, []rune{-7})
		spoil(f.T.Pattern, -7)
		spoil(f.T.Format, -7)
	}
	spoil(x.Fields, expand.Field{N: -7})
}

// copySeen and copySession return copies which share no memory.
func copySeen(s Seen) Seen {
	s.Text, s.Sels, s.Spans, s.Line = slices.Clone(s.Text), slices.Clone(s.Sels), slices.Clone(s.Spans), slices.Clone(s.Line)
	return s
}

func copySession(x session.State) session.State {
	x.Text = slices.Clone(x.Text)
	x.Fields = slices.Clone(x.Fields)
	for i := range x.Fields {
		x.Fields[i] = copied(x.Fields[i])
	}
	return x
}

// What is returned is new memory: changed, it changes no later answer, and no later
// call changes it.
func TestResultsAreNewMemory(t *testing.T) {
	for _, start := range starts {
		e, as := started(t, 4, 12), started(t, 4, 12)
		for _, n := range someNames {
			e.Name([]rune(n[0]), []rune(n[1]))
			as.Name([]rune(n[0]), []rune(n[1]))
		}
		e.Value([]rune("V"), []rune("aba"))
		as.Value([]rune("V"), []rune("aba"))
		var kept []Seen
		var copies []Seen
		var opened, openedCopies []session.State
		for i, k := range append([]string{start}, commandKeys...) {
			b := e.Feed([]byte(k))
			if want := as.Feed([]byte(k)); !bytes.Equal(b, want) {
				t.Fatalf("%q: %q, want %q", k, b, want)
			}
			spoil(b, 'q')
			s, want := e.See(), as.See()
			x, is := e.Open()
			y, open := as.Open()
			if !sameSeen(s, want) || is != open || !sameSession(x, y) {
				t.Fatalf("%q, %q: %v, want %v; %v, want %v", start, k, s, want, x, y)
			}
			kept, copies = append(kept, want), append(copies, copySeen(want))
			opened, openedCopies = append(opened, y), append(openedCopies, copySession(y))
			spoilSeen(s)
			spoilSession(x)
			if i%5 == 0 {
				b, _ := e.Size(4, 12)
				as.Size(4, 12)
				spoil(b, 'q')
			}
		}
		spoil(e.Flush(), 'q')
		for i := range kept {
			if !sameSeen(kept[i], copies[i]) || !sameSession(opened[i], openedCopies[i]) {
				t.Errorf("%q: %v became %v", start, copies[i], kept[i])
			}
		}
	}
}

// No two lists of one answer share memory.
func TestListsOfOneAnswer(t *testing.T) {
	e := started(t, 2, 9)
	e.Name([]rune("n"), []rune("${1|ab,cd|}${1/a/b/}${1/a/b/}$0"))
	e.Feed([]byte("ab\rn\t"))
	s := e.See()
	want := copySeen(s)
	spoil(s.Text, -7)
	if !slices.Equal(s.Line, want.Line) || !slices.Equal(s.Sels, want.Sels) || !slices.Equal(s.Spans, want.Spans) {
		t.Errorf("%v, want %v", s, want)
	}
	x, _ := e.Open()
	y := copySession(x)
	spoil(x.Fields[1].T.Pattern, -7)
	spoil(x.Fields[1].T.Format, -7)
	spoil(x.Fields[0].Choices[0], -7)
	spoil(x.Text, -7)
	if !sameField(x.Fields[2], y.Fields[2]) || !slices.Equal(x.Fields[0].Choices[1], y.Fields[0].Choices[1]) {
		t.Errorf("%v, want %v", x, y)
	}
	if z, _ := e.Open(); !sameSession(z, y) {
		t.Errorf("%v, want %v", z, y)
	}
}

// R4

// The same calls give the same, also with other editors between.
func TestSameAgain(t *testing.T) {
	script := "fn\tgo\t\x1bn\x1b[Z\x7f\x1a\x1a\x18 m\tab\x10\rv\t\x10\x0e in\tq\tw\x1b[1;3A\x07ab\ncd\x1b[1;3Ax\x0b\x19"
	run := func(between func()) (all []string) {
		p := newPair(t).allNames()
		for i := range len(script) {
			all = append(all, string(p.fed.Feed([]byte(script[i:i+1]))))
			x, is := p.fed.Open()
			all = append(all, told(p.fed.See(), x, is))
			between()
		}
		return all
	}
	first := run(func() {})
	other := started(t, 2, 2)
	again := run(func() { other.Feed([]byte("x y\x0b\t\r\x10")) })
	if !slices.Equal(first, again) {
		t.Errorf("%q, then %q", first, again)
	}
}

// See and Open change nothing, however often they are asked.
func TestAskedOften(t *testing.T) {
	for _, start := range starts {
		p := newPair(t).namesFor(start).feed(start)
		for range 3 {
			p.typed.See()
			p.typed.Open()
		}
		p.feed("x").feed(undone).feed(redone)
	}
}

// R5 and the example of the chapter

func TestExample(t *testing.T) {
	newPair(t).want("ab"+undone, "|")
	// The whole one's examples: 5, 6 and 7.
	newPair(t).name("n", "${1:a}-$1").want("n"+tab, "[a>-a /1").want(right+"b", "ab|-ab /1")
	newPair(t).want("a"+line+"b"+lineStart+caretUp+"x", "x|a\nx|b")
	newPair(t).want("ab"+strings.Repeat(undone, 2), "| !4")
}
