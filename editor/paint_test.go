package editor

import (
	"bytes"
	"math"
	"slices"
	"testing"

	"stylus/api"
	"stylus/keys"
	"stylus/render"
	"stylus/vt"
)

// P24.2: Feed, Flush and Size, and what is painted

func TestPainted(t *testing.T) {
	e := started(t, 2, 3)
	e.Name([]rune("n"), []rune("${1:ab}-$1"))
	for i, c := range []struct {
		feed, want string
	}{
		// At first everything, also if nothing was typed.
		{"", "\x1b[2J\x1b[1;1H\x1b[0;1m \x1b[0m  \x1b[2;1H\x1b[0m   "},
		{"", ""},
		{"a", "\x1b[1;1H\x1b[0ma\x1b[0;1m \x1b[0m "},
		{"bc", "\x1b[1;1H\x1b[0mabc\x1b[2;1H\x1b[0;1m \x1b[0m  "},
		{noKey, ""},
		{redone, ""}, // with an error nothing changes
		{right, ""},
		{left, "\x1b[1;1H\x1b[0mab\x1b[0;1mc\x1b[2;1H\x1b[0m   "},
		{left + right, ""}, // painted when all is done
		{leftMore, "\x1b[1;1H\x1b[0ma\x1b[0;7;1mb\x1b[0mc"},
		{abort, "\x1b[1;1H\x1b[0;1m \x1b[0m  "},
		{"n", "\x1b[1;1H\x1b[0mn\x1b[0;1m \x1b[0m "},
		{tab, "\x1b[1;1H\x1b[0;7;4mab\x1b[0;1m-\x1b[2;1H\x1b[0;4mab\x1b[0m "},
		{"c", "\x1b[1;1H\x1b[0;4mc\x1b[0;1m-\x1b[0;4mc\x1b[2;1H\x1b[0m   "},
		{one, "\x1b[1;1H\x1b[0mc\x1b[0;1m-\x1b[0mc"},
		// What is typed and undone at once is not painted.
		{"x" + undone, ""},
		{line + line + line, "\x1b[1;1H\x1b[0m   \x1b[2;1H\x1b[0;1m-\x1b[0mc "},
	} {
		if b := e.Feed([]byte(c.feed)); string(b) != c.want {
			t.Errorf("%d: %q: %q, want %q", i, c.feed, b, c.want)
		}
	}
}

// Do does not paint: what it changed is painted later.
func TestDoDoesNotPaint(t *testing.T) {
	e := started(t, 1, 3)
	e.Feed(nil)
	e.Do(keys.Key{Kind: keys.Char, Rune: 'a'})
	if b := e.Flush(); string(b) != "\x1b[1;1H\x1b[0ma\x1b[0;1m \x1b[0m " {
		t.Errorf("%q", b)
	}
	e.Do(keys.Key{Kind: keys.Char, Rune: 'b'})
	e.Do(keys.Key{Kind: keys.Back})
	if b := e.Feed(nil); len(b) != 0 {
		t.Errorf("%q", b)
	}
}

func TestSizePaints(t *testing.T) {
	e := started(t, 1, 2)
	for i, c := range []struct {
		rows, columns int
		want          string
	}{
		{1, 2, "\x1b[2J\x1b[1;1H\x1b[0;1m \x1b[0m "}, // nothing was painted before
		{1, 2, ""},
		{2, 1, "\x1b[2J\x1b[1;1H\x1b[0;1m \x1b[2;1H\x1b[0m "},
		{2, 1, ""},
		{1, 1, "\x1b[2J\x1b[1;1H\x1b[0;1m "},
		{1, 3, "\x1b[2J\x1b[1;1H\x1b[0;1m \x1b[0m  "},
		{0, 3, "!"},
		{1, 61, "!"},
		{1, 3, ""},
		{1, 2, "\x1b[2J\x1b[1;1H\x1b[0;1m \x1b[0m "},
	} {
		b, err := e.Size(c.rows, c.columns)
		if c.want == "!" && (err != api.ErrArg || len(b) != 0) || c.want != "!" && (err != api.OK || string(b) != c.want) {
			t.Errorf("%d: Size(%d, %d): %q, %d, want %q", i, c.rows, c.columns, b, err, c.want)
		}
	}
	// What Do changed is painted by Size, too.
	e.Do(keys.Key{Kind: keys.Char, Rune: 'a'})
	if b, err := e.Size(1, 2); err != api.OK || string(b) != "\x1b[1;1H\x1b[0ma\x1b[0;1m " {
		t.Errorf("%q, %d", b, err)
	}
}

// T5: what a terminal shows of different sizes, step by step.
func TestSizesInTheMidst(t *testing.T) {
	sides := [][2]int{{4, 12}, {1, 1}, {12, 4}, {60, 60}, {2, 3}, {2, 3}, {3, 2}, {1, 60}, {60, 1}, {5, 5}}
	for _, start := range starts {
		p := newPair(t).namesFor(start).feed(start)
		for i, s := range sides {
			p.size(s[0], s[1])
			p.feed([]string{"a", line, tab, left, caretUp, undone, leftMore, choice, "中", older}[i])
			p.size(s[0], s[1])
		}
	}
}

// T5: behind each kind of command.
func TestScreenBehindEachCommand(t *testing.T) {
	for _, start := range starts {
		p := newPairOf(t, 3, 5).namesFor(start)
		for i := range len(start) {
			p.feed(start[i : i+1])
		}
		for _, k := range commandKeys {
			p.feed(k)
		}
		p.feed(noKey).feed("").flush()
	}
}

// A text that is longer than the screen: the primary caret is on it.
func TestScreenOfALongText(t *testing.T) {
	p := newPairOf(t, 3, 4)
	for range 60 {
		p.feed("a中b")
	}
	for _, k := range []string{toStart, toEnd, up, up, up, lineStart, "x" + line, "y" + line + line, caretUp, caretUp, wordLMore, killWord, undone} {
		p.feed(k)
	}
	if g := p.screen.Grid(); !slices.ContainsFunc(g.Cells, func(c render.Cell) bool { return c.Style&4 != 0 }) {
		t.Errorf("no caret: %v", g)
	}
}

// Feed

func TestFedInParts(t *testing.T) {
	for _, s := range []string{
		"", "a", "abc", "aé中\U0001F600b", "a\x1b[Db", "a\x1b[1;2Db", "ab\x1bbc", "fn\tgo\t\x1bn\x1b[Z\x7f", "ab\ncd\x1b[1;3Ax", "a\x1bO", "a\x1bODb",
		"a\xffb\xc3", "a\xc3\xa9\xe4\xb8", "\x1b\x1b[Da", "\x1b[99~a", "\x1b[1;5", "ab\r\x10\x10\x0e", "a\x1b",
	} {
		whole := newPair(t).allNames().feed(s)
		for i := range len(s) + 1 {
			for k := i; k <= len(s); k++ {
				p := newPair(t).allNames().feed(s[:i]).feed(s[i:k]).feed(s[k:])
				if !sameSeen(p.fed.See(), whole.fed.See()) {
					t.Errorf("%q, %q, %q", s[:i], s[i:k], s[k:])
				}
			}
		}
		whole.flush()
		single := newPair(t).allNames()
		for i := range len(s) {
			single.feed(s[i : i+1])
		}
		if single.flush(); !sameSeen(single.fed.See(), whole.fed.See()) {
			t.Errorf("%q", s)
		}
	}
}

func TestFlush(t *testing.T) {
	for _, c := range []struct{ feed, before, after, typed string }{
		{"", "|", "|", "c|"},
		{"ab", "ab|", "ab|", "abc|"},
		{"ab" + leftMore, "a<b]", "a<b]", "ac|"},
		{"ab" + leftMore + "\x1b", "a<b]", "a|b", "ac|b"}, // Escape
		{"ab" + leftMore + "\x1b[", "a<b]", "a<b]", "ac|"},
		{"ab" + leftMore + "\x1b[1;2", "a<b]", "a<b]", "ac|"},
		{"ab" + leftMore + "\x1bO", "a<b]", "a<b]", "ac|"},
		{"ab\xc3", "ab|", "ab\uFFFD|", "ab\uFFFDc|"},
		{"ab\xf0\x9f\x98", "ab|", "ab\uFFFD\uFFFD\uFFFD|", "ab\uFFFD\uFFFD\uFFFDc|"},
		{"ab\x1b\xf0\x9f", "ab|", "ab\uFFFD|", "ab\uFFFDc|"}, // the first one with Alt
	} {
		p := newPair(t).want(c.feed, c.before).flush().is(c.feed, c.after)
		p.flush().is(c.feed, c.after).want("c", c.typed)
	}
	// What waited is gone.
	newPair(t).feed("ab\x1b[1;").flush().want("2D", "ab2D|")
	newPair(t).feed("ab\x1b").flush().want("[D", "ab[D|")
	newPair(t).feed("ab\xc3").flush().want("\xa9", "ab\uFFFD\uFFFD|")
}

// What waits is not lost by Do, by Size, or by what is set.
func TestWaitingStays(t *testing.T) {
	e := started(t, 2, 9)
	e.Feed([]byte("ab\x1b[1;"))
	e.Do(keys.Key{Kind: keys.Char, Rune: 'c'})
	e.Size(3, 3)
	e.Name([]rune("n"), []rune("x"))
	e.Value([]rune("n"), []rune("x"))
	e.See()
	e.Open()
	e.Feed(nil)
	e.Feed([]byte("2D"))
	x, is := e.Open()
	if got := told(e.See(), x, is); got != "ab<c]" {
		t.Errorf("%s", got)
	}
}

// Size

func TestSize(t *testing.T) {
	numbers := []int{math.MinInt, -60, -1, 0, 1, 2, 59, 60, 61, 100, math.MaxInt32, math.MaxInt}
	for _, rows := range numbers {
		for _, columns := range numbers {
			want := api.OK
			if rows < 1 || rows > 60 || columns < 1 || columns > 60 {
				want = api.ErrArg
			}
			if e, err := New(rows, columns); err != want || (e != nil) != (want == api.OK) {
				t.Errorf("New(%d, %d): %v, %d", rows, columns, e, err)
			}
			p := newPair(t).feed("ab" + line + "c")
			b, err := p.fed.Size(rows, columns)
			if err != want || want != api.OK && len(b) != 0 {
				t.Errorf("Size(%d, %d): %q, %d, want %d", rows, columns, b, err, want)
			}
			if want == api.OK {
				continue
			}
			// Nothing changed.
			p.want("", "ab\nc|").want("d", "ab\ncd|")
			if g := p.fed.shown; g.Rows != 4 || g.Columns != 12 {
				t.Errorf("Size(%d, %d): %d, %d", rows, columns, g.Rows, g.Columns)
			}
		}
	}
}

// Size leaves all else as it is, and the same is painted in the end.
func TestSizeAlone(t *testing.T) {
	p := newPair(t).allNames().feed("ab" + enter + "fn" + tab + "x")
	before, _ := p.fed.Open()
	s := p.fed.See()
	for _, side := range [][2]int{{1, 1}, {60, 60}, {4, 12}} {
		b, err := p.fed.Size(side[0], side[1])
		x, is := p.fed.Open()
		if err != api.OK || len(b) == 0 || !is || !sameSession(x, before) || !sameSeen(p.fed.See(), s) {
			t.Errorf("%v: %d", side, err)
		}
	}
	if b := p.fed.Feed(nil); len(b) != 0 {
		t.Errorf("%q", b)
	}
	p.fed.Size(1, 1)
	q := newPair(t).allNames().feed("ab" + enter + "fn" + tab + "x")
	anew, _ := p.fed.Size(4, 12)
	g, _ := render.Show(render.View{Text: s.Text, Sels: s.Sels, Spans: s.Spans}, 4, 12)
	want, _ := vt.Paint(render.Grid{}, g)
	if !bytes.Equal(anew, want) || !sameGrid(q.screen.Grid(), g) {
		t.Errorf("%q, want %q", anew, want)
	}
}
