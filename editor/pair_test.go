package editor

import (
	"bytes"
	"fmt"
	"slices"
	"strings"
	"testing"

	"stylus/api"
	"stylus/expand"
	"stylus/keys"
	"stylus/render"
	"stylus/session"
	"stylus/vt"
)

// The bytes of keys. Each command that a key has at first is there; what is not
// here is typed as it is.
const (
	lineStart = "\x01"
	lineEnd   = "\x05"
	left      = "\x1b[D"
	right     = "\x1b[C"
	wordLeft  = "\x1bb"
	wordRight = "\x1bf"
	up        = "\x1b[A"
	down      = "\x1b[B"
	toStart   = "\x1b<"
	toEnd     = "\x1b>"
	leftMore  = "\x1b[1;2D"
	rightMore = "\x1b[1;2C"
	wordLMore = "\x1b[1;6D"
	wordRMore = "\x1b[1;6C"
	startMore = "\x1b[1;2H"
	endMore   = "\x1b[1;2F"
	upMore    = "\x1b[1;2A"
	downMore  = "\x1b[1;2B"
	back      = "\x7f"
	del       = "\x04"
	killWord  = "\x1bd"
	killLine  = "\x0b"
	transpose = "\x14"
	yank      = "\x19"
	undone    = "\x1a"
	redone    = "\x18"
	tab       = "\t"
	field     = "\x1b[Z"
	choice    = "\x1bn"
	other     = "\x1bp"
	caretUp   = "\x1b[1;3A"
	caretDown = "\x1b[1;3B"
	one       = "\x07"
	older     = "\x10"
	newer     = "\x0e"
	search    = "\x12"
	enter     = "\r"
	line      = "\n"
	abort     = "\x03"
	noKey     = "\x0f" // Control o, which has no command
)

// commandKeys has one key for each command that a key has at first.
var commandKeys = []string{
	"a", line, enter, abort, lineStart, lineEnd, left, right, wordLeft, wordRight, up, down, toStart, toEnd,
	leftMore, rightMore, wordLMore, wordRMore, startMore, endMore, upMore, downMore, back, del, killWord, killLine, transpose, yank,
	undone, redone, tab, field, choice, other, caretUp, caretDown, one, older, newer, search,
}

// pair is an editor to whose Do keys are typed, one that is fed the same keys as
// bytes, what the chapter's words say of both, and a terminal that reads what the
// second one paints.
type pair struct {
	t          *testing.T
	typed, fed *Editor
	decoder    *keys.Decoder
	words      *words
	screen     *vt.Term
}

func newPair(t *testing.T) *pair {
	return newPairOf(t, 4, 12)
}

func newPairOf(t *testing.T, rows, columns int) *pair {
	t.Helper()
	p := &pair{t: t, typed: started(t, rows, columns), fed: started(t, rows, columns), decoder: keys.New(), words: newWords(rows, columns)}
	p.screen, _ = vt.New(rows, columns)
	return p
}

// started returns an editor.
func started(t *testing.T, rows, columns int) *Editor {
	t.Helper()
	e, err := New(rows, columns)
	if err != api.OK || e == nil {
		t.Fatalf("New(%d, %d): %v, %d", rows, columns, e, err)
	}
	return e
}

// name sets an abbreviation everywhere.
func (p *pair) name(name, text string) *pair {
	p.t.Helper()
	want := p.words.name([]rune(name), []rune(text))
	for _, e := range []*Editor{p.typed, p.fed} {
		if got := e.Name([]rune(name), []rune(text)); got != want {
			p.t.Errorf("Name(%q, %q): %d, want %d", name, text, got, want)
		}
	}
	return p
}

// value sets a variable everywhere.
func (p *pair) value(name, text string) *pair {
	p.t.Helper()
	want := p.words.value([]rune(name), []rune(text))
	for _, e := range []*Editor{p.typed, p.fed} {
		if got := e.Value([]rune(name), []rune(text)); got != want {
			p.t.Errorf("Value(%q, %q): %d, want %d", name, text, got, want)
		}
	}
	return p
}

// feed executes the keys of bytes everywhere, and holds what comes of each.
func (p *pair) feed(s string) *pair {
	p.t.Helper()
	p.do(p.decoder.Feed([]byte(s)))
	p.painted(s, p.fed.Feed([]byte(s)))
	return p
}

// flush ends the waiting everywhere.
func (p *pair) flush() *pair {
	p.t.Helper()
	p.do(p.decoder.Flush())
	p.painted("(flush)", p.fed.Flush())
	return p
}

func (p *pair) do(l []keys.Key) {
	p.t.Helper()
	for _, k := range l {
		p.press(k)
	}
}

// press executes the command of a key, and holds what comes of it. What is fed is
// held later, when all of it is there.
func (p *pair) press(k keys.Key) {
	p.t.Helper()
	command := p.words.keymap.Find(k)
	before := p.words.forth(command, k.Rune)
	got, want := p.typed.Do(k), p.words.do(k)
	if got != want {
		p.t.Errorf("Do(%v): %d, want %d", k, got, want)
	}
	p.holdEditor(fmt.Sprint("Do ", k), p.typed)
	if before != nil && want == 0 && (string(before.text) != string(p.words.now.text) || !slices.Equal(before.sels, p.words.now.sels)) {
		p.t.Errorf("Do(%v): from the first one on: %q, %v", k, string(before.text), before.sels)
	}
}

// forth returns what an Insert, DelLeft or DelRight comes to from the first
// selection on, if no session is open.
func (w *words) forth(command int, r rune) *moment {
	if w.now.x != nil || len(w.now.sels) < 2 {
		return nil
	}
	var m moment
	switch command {
	case 1:
		m = w.forward(1, []rune{r})
	case 2:
		m = w.forward(1, []rune{10})
	case 51:
		m = w.forward(2, nil)
	case 52:
		m = w.forward(3, nil)
	case 56:
		m = w.forward(1, w.killed)
	default:
		return nil
	}
	return &m
}

// painted holds what was painted, and the editor that did so.
func (p *pair) painted(what string, b []byte) {
	p.t.Helper()
	if want := p.words.paint(); !bytes.Equal(b, want) {
		p.t.Errorf("%q: painted %q, want %q", what, b, want)
	}
	p.holdEditor(fmt.Sprintf("fed %q", what), p.fed)
	p.screen.Write(b)
	p.holdScreen(what)
}

// holdScreen holds T5: the terminal shows the same as one that is painted anew.
func (p *pair) holdScreen(what string) {
	p.t.Helper()
	anew, _ := vt.New(p.words.rows, p.words.columns)
	b, _ := vt.Paint(render.Grid{}, p.words.grid())
	anew.Write(b)
	if got, want := p.screen.Grid(), anew.Grid(); !sameGrid(got, want) || !sameGrid(want, p.words.grid()) {
		p.t.Errorf("%q: shown %v, want %v", what, got, want)
	}
}

func sameGrid(a, b render.Grid) bool {
	return a.Rows == b.Rows && a.Columns == b.Columns && slices.Equal(a.Cells, b.Cells)
}

// size gives another size everywhere.
func (p *pair) size(rows, columns int) *pair {
	p.t.Helper()
	p.words.rows, p.words.columns = rows, columns
	want := p.words.paint()
	b, e := p.fed.Size(rows, columns)
	if e != api.OK || !bytes.Equal(b, want) {
		p.t.Errorf("Size(%d, %d): %q, %d, want %q", rows, columns, b, e, want)
	}
	if p.screen.Grid().Rows != rows || p.screen.Grid().Columns != columns {
		p.screen.Size(rows, columns)
	}
	p.screen.Write(b)
	p.holdScreen("Size")
	return p
}

// holdEditor holds what is seen of an editor, and the session that is open.
func (p *pair) holdEditor(what string, e *Editor) {
	p.t.Helper()
	s, want := e.See(), p.words.see()
	x, is := e.Open()
	y, wanted := p.words.open()
	if !sameSeen(s, want) || is != wanted || !sameSession(x, y) {
		p.t.Errorf("%s: %s, want %s", what, told(s, x, is), told(want, y, wanted))
		p.t.Errorf("%v, want %v; %v, want %v", s, want, x, y)
	}
	if behind, ahead := e.log.Size(); [2]int{behind, ahead} != p.words.size() {
		p.t.Errorf("%s: %d and %d, want %v", what, behind, ahead, p.words.size())
	}
	wordsRight(p.t, s, x)
}

// want feeds bytes, and holds what is told then.
func (p *pair) want(s, want string) *pair {
	p.t.Helper()
	p.feed(s)
	return p.is(s, want)
}

// is holds what is told.
func (p *pair) is(what, want string) *pair {
	p.t.Helper()
	for _, e := range []*Editor{p.typed, p.fed} {
		x, is := e.Open()
		if got := told(e.See(), x, is); got != want {
			p.t.Errorf("%q: %s, want %s", what, got, want)
		}
	}
	return p
}

// told tells a text with its selections, the active number of an open session, and
// the code, if it is not 0. | is a caret, [ ] is a selection, with < or > for its
// Head.
func told(s Seen, x session.State, is bool) string {
	var b strings.Builder
	for i := range len(s.Text) + 1 {
		for _, l := range s.Sels {
			switch {
			case l.Anchor == i && l.Head == i:
				b.WriteString("|")
			case l.Anchor == i && l.Head > i:
				b.WriteString("[")
			case l.Anchor == i:
				b.WriteString("]")
			case l.Head == i && l.Anchor > i:
				b.WriteString("<")
			case l.Head == i:
				b.WriteString(">")
			}
		}
		if i < len(s.Text) {
			b.WriteRune(s.Text[i])
		}
	}
	if is {
		fmt.Fprintf(&b, " /%d", x.Active)
	}
	if s.Code != 0 {
		fmt.Fprintf(&b, " !%d", s.Code)
	}
	return b.String()
}

func sameSeen(a, b Seen) bool {
	return slices.Equal(a.Text, b.Text) && slices.Equal(a.Sels, b.Sels) && slices.Equal(a.Spans, b.Spans) && slices.Equal(a.Line, b.Line) && a.Lines == b.Lines && a.Code == b.Code
}

func sameSession(a, b session.State) bool {
	return a.Active == b.Active && slices.Equal(a.Text, b.Text) && slices.EqualFunc(a.Fields, b.Fields, sameField)
}

func sameField(a, b expand.Field) bool {
	return a.N == b.N && a.Span == b.Span && a.Up == b.Up && a.Primary == b.Primary && a.Turn == b.Turn &&
		slices.EqualFunc(a.Choices, b.Choices, slices.Equal) &&
		slices.Equal(a.T.Pattern, b.T.Pattern) && slices.Equal(a.T.Format, b.T.Format) && a.T.All == b.T.All && a.T.Fold == b.T.Fold
}

// lot draws numbers, the same ones each time.
type lot uint64

func (l *lot) draw(n int) int {
	*l = *l*6364136223846793005 + 1442695040888963407
	return int(uint64(*l)>>33) % n
}
