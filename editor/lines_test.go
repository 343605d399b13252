package editor

import (
	"fmt"
	"strings"
	"testing"
)

// P24.2: Older, Search, Newer, Accept and Abort

// lined returns a script that accepts lines.
func lined(l ...string) string {
	return strings.Join(l, enter) + enter
}

func TestOlderAndNewer(t *testing.T) {
	few := lined("ab", "b", "ac")
	hold(t, nil,
		// An empty ring.
		script{older, "| !4"}, script{newer, "| !4"}, script{search, "| !4"},
		script{"a" + older, "a| !4"}, script{"a" + newer, "a| !4"}, script{"a" + search, "a| !4"},
		script{enter + older, "| !4"},
		// An empty draft: all of them.
		script{few + older, "ac|"},
		script{few + older + older, "b|"},
		script{few + older + older + older, "ab|"},
		script{few + older + older + older + older, "ab| !4"},
		script{few + newer, "| !4"},
		script{few + older + newer, "|"},
		script{few + older + newer + newer, "| !4"},
		script{few + older + older + older + newer, "b|"},
		script{few + older + older + older + newer + newer, "ac|"},
		script{few + older + older + older + newer + newer + newer, "|"},
		script{few + older + older + older + older + older + newer, "b|"},
		// A draft that none, one and several match.
		script{few + "x" + older, "x| !4"},
		script{few + "x" + older + older + newer, "x| !4"},
		script{few + "c" + older, "c| !4"},
		script{few + "b" + older, "b|"},
		script{few + "b" + older + older, "b| !4"},
		script{few + "b" + older + newer, "b|"},
		script{few + "b" + older + newer + newer, "b| !4"},
		script{few + "a" + older, "ac|"},
		script{few + "a" + older + older, "ab|"},
		script{few + "a" + older + older + older, "ab| !4"},
		script{few + "a" + older + older + newer, "ac|"},
		script{few + "a" + older + older + newer + newer, "a|"},
		script{few + "a" + older + older + newer + newer + older, "ac|"},
		script{few + "ac" + older, "ac|"},
		script{few + "acx" + older, "acx| !4"},
		// The draft is the text, wherever the caret is; it comes back with a caret.
		script{few + "ab" + left + older + newer, "ab|"},
		script{few + "a" + leftMore + older + newer, "a|"},
		script{lined("a\nb") + "a" + line + "b" + caretUp + older, "a\nb|"},
		// As a part.
		script{few + search, "ac|"},
		script{few + "b" + search, "b|"},
		script{few + "b" + search + search, "ab|"},
		script{few + "b" + search + search + search, "ab| !4"},
		script{few + "c" + search, "ac|"},
		script{few + "x" + search, "x| !4"},
		script{few + "b" + search + older, "b| !4"},
		script{few + "b" + older + search, "ab|"},
		// Newer takes prefixes alone.
		script{few + "b" + search + search + newer, "b|"},
		script{few + "b" + search + search + newer + newer, "b|"},
		script{few + "c" + search + newer, "c|"},
		script{lined("ab", "cb", "b") + "b" + search + search + search + newer, "b|"},
		script{lined("b", "cb", "ab") + "b" + search + search + search + newer, "b|"},
		script{lined("b", "cb", "ab") + "b" + search + search + search + newer + newer, "b| !4"},
		// The same lines twice.
		script{lined("ab", "ac", "ab") + older, "ab|"},
		script{lined("ab", "ac", "ab") + older + older, "ac|"},
		script{lined("ab", "ac", "ab") + older + older + older, "ac| !4"},
	)
}

func TestDraft(t *testing.T) {
	few := lined("ab", "b", "ac")
	hold(t, nil,
		// What changes something sets the place to the end of the ring, so that the
		// draft is another one.
		script{few + older + "x" + older, "acx| !4"},
		script{few + older + "x" + newer, "acx| !4"},
		script{few + older + back + older, "ac|"},
		script{few + older + back + older + older, "ab|"},
		script{few + older + line + older, "ac\n| !4"},
		script{few + older + transpose + older, "ca| !4"},
		script{few + older + lineStart + killWord + older + older + older, "ab|"},
		script{few + older + older + lineStart + killLine + yank + older, "b|"},
		script{few + older + older + lineStart + killLine + yank + older + older, "b| !4"},
		// What moves, changes nothing or has an error does not.
		script{few + older + left + older, "b|"},
		script{few + older + lineStart + older + newer, "ac|"},
		script{few + older + leftMore + newer, "|"},
		script{few + older + one + older, "b|"},
		script{few + older + del + older, "b|"},
		script{few + older + killWord + killLine + older, "b|"},
		script{few + older + lineStart + back + transpose + older, "b|"},
		script{few + older + tab + field + choice + other + yank + older, "b|"},
		script{few + older + caretUp + caretDown + redone + older, "b|"},
		script{few + older + noKey + older, "b|"},
		script{lined("a\nb", "c") + older + older + caretUp + newer, "c|"},
		// The text may stay as it is when the selections change: it is an edit.
		script{lined("a", "aa") + older + left + transpose + older, "aa|"},
		script{lined("b", "aa", "c") + older + older + left + transpose + newer, "aa| !4"},
		// A text that was changed, back at the draft.
		script{few + "a" + older + newer + "c" + older, "ac|"},
		script{few + "a" + older + newer + back + "b" + older, "b|"},
		script{few + "a" + older + older + newer + newer + back + older + older, "b|"},
		// The draft stays as it became with an error, until there is another one.
		script{few + "x" + older + back + older, "ac|"},
		script{few + "a" + older + older + older + newer, "ac|"},
		// Accept and Abort.
		script{few + "a" + older + abort + newer, "| !4"},
		script{few + "a" + older + abort + older + older, "b|"},
		script{few + "a" + older + older + enter + older, "ab|"},
		script{few + "a" + older + older + enter + older + older, "ac|"},
		script{few + "a" + older + older + enter + newer, "| !4"},
	)
}

// Each line that is shown is a Step.
func TestShownLinesAreSteps(t *testing.T) {
	few := lined("ab", "b", "ac")
	hold(t, nil,
		script{few + "a" + older + older + undone, "ac|"},
		script{few + "a" + older + older + undone + undone, "a|"},
		script{few + "a" + older + older + undone + undone + undone, "|"},
		script{few + "a" + older + older + undone + undone + redone + redone, "ab|"},
		script{few + "a" + older + newer + undone, "ac|"},
		script{few + "a" + older + newer + undone + undone, "a|"},
		script{few + "a" + search + undone, "a|"},
		script{few + older + "x" + undone, "ac|"},
		script{few + older + "x" + undone + undone, "|"},
		script{few + "a" + older + older + older + undone, "ac|"}, // with an error there is none
		script{few + "ac" + older + undone, "ac|"},                // also if the text stays
		script{few + "ac" + older + undone + undone, "|"},
		script{few + older + undone + older + redone, "ac| !4"},
		script{few + "a" + older + left + undone, "a|"},
		script{few + "ab" + undone + older + redone, "ac| !4"},
		script{few + "ab" + undone + newer + redone, "ab|"},
	)
}

func TestLinesInASession(t *testing.T) {
	name := naming("q", "${1:a}$0", "n", "-$0-", "w", "word")
	few := lined("ab", "b", "ac")
	hold(t, name,
		script{few + "q" + tab, "[a> /1"},
		script{few + "q" + tab + older, "ac|"},
		script{few + "q" + tab + older + tab, "ac| !4"},
		script{few + "q" + tab + older + older, "ab|"},
		script{few + "q" + tab + older + newer, "a|"},
		script{few + "q" + tab + older + newer + tab, "a| !4"},
		script{few + "q" + tab + older + undone, "[a> /1"},
		script{few + "q" + tab + older + undone + older, "ac|"},
		script{few + "q" + tab + older + undone + redone, "ac|"},
		script{few + "q" + tab + search, "ac|"},
		script{few + "q" + tab + "x" + older, "x| /1 !4"},
		script{few + "q" + tab + newer, "[a> /1 !4"},
		script{few + "q" + tab + enter, "|"},
		script{few + "q" + tab + enter + older, "a|"},
		script{few + "q" + tab + enter + undone, "| !4"},
		script{few + "q" + tab + abort + older, "ac|"},
		// Expand with a Step sets the place, too.
		script{lined("n", "x") + older + older + tab, "-|-"},
		script{lined("n", "x") + older + older + tab + newer, "-|- !4"},
		script{lined("n", "x") + older + older + tab + older, "-|- !4"},
		script{lined("n", "x") + older + older + newer, "x|"},
		script{lined("q", "x") + older + older + tab + newer, "[a> /1 !4"},
		script{lined("q", "x") + older + older + tab + one + newer, "[a> !4"},
		script{lined("w", "x") + older + older + tab + newer, "word| !4"},
		// But not where it is Moved.
		script{lined("ab", "b") + "q" + tab + tab + older, "ab|"},
	)
}

// held holds the line that was accepted last, and how many there are.
func (p *pair) held(line string, lines int) *pair {
	p.t.Helper()
	for _, e := range []*Editor{p.typed, p.fed} {
		if s := e.See(); string(s.Line) != line || s.Lines != lines {
			p.t.Errorf("%q, %d, want %q, %d", string(s.Line), s.Lines, line, lines)
		}
	}
	return p
}

func TestAccept(t *testing.T) {
	p := newPair(t).held("", 0)
	p.want(enter, "|").held("", 1)
	p.want(older, "| !4")
	p.want("ab"+enter, "|").held("ab", 2)
	p.want("x"+left+abort, "|").held("ab", 2)
	p.want("c"+line+"d"+up+enter, "|").held("c\nd", 3)
	p.want(older, "c\nd|").held("c\nd", 3)
	p.want(enter, "|").held("c\nd", 4)
	p.want(older+older, "ab|").want(older, "ab| !4")
	p.want(abort+enter, "|").held("", 5)
	p.want(older, "c\nd|")
	p.want("e"+caretUp+enter, "|").held("c\nde", 6)
	p.want(undone, "| !4").want(redone, "| !4")
	p.want("a"+undone+enter, "|").held("", 7)
	p.want(redone, "| !4")
	// A caret at 0, and no run.
	p.want("ab"+line+"c"+caretUp+enter+"x", "x|").want(undone, "|").want(undone, "| !4")
	p.want("中"+enter, "|").held("中", 9)
	if behind, ahead := p.typed.log.Size(); behind != 0 || ahead != 0 {
		t.Errorf("%d, %d", behind, ahead)
	}
	full := strings.Repeat("y", 2000)
	p.want(full+enter, "|").held(full, 10).want(older, full+"|").want(enter, "|").held(full, 11)
}

// As many lines as there may be, and one more
func TestFullRing(t *testing.T) {
	p := newPair(t)
	for i := range 30 {
		p.feed(fmt.Sprint("x", i) + enter)
	}
	for i := range 30 {
		p.want(older, fmt.Sprint("x", 29-i, "|"))
	}
	p.want(older, "x0| !4").want(abort+"y"+enter, "|").held("y", 31)
	p.want(older, "y|")
	for i := range 29 {
		p.want(older, fmt.Sprint("x", 29-i, "|"))
	}
	p.want(older, "x1| !4")
	for i := range 28 {
		p.want(newer, fmt.Sprint("x", 2+i, "|"))
	}
	p.want(newer, "y|").want(newer, "|").want(newer, "| !4")
	// One that is there already drops none.
	p.want("x1"+enter, "|").held("x1", 32).want(older, "x1|").want(older, "y|")
	for i := range 28 {
		p.want(older, fmt.Sprint("x", 29-i, "|"))
	}
	p.want(older, "x2| !4")
	p.want(abort+"x2"+search, "x29|")
}

func TestAbort(t *testing.T) {
	hold(t, func(p *pair) { p.allNames() },
		script{abort, "|"},
		script{"ab" + abort, "|"},
		script{"ab" + abort + undone, "| !4"},
		script{"ab" + undone + abort + redone, "| !4"},
		script{"ab" + abort + "c" + undone, "|"},
		script{"ab" + abort + "c" + undone + undone, "| !4"},
		script{"ab" + line + "c" + caretUp + abort + "x", "x|"},
		script{"ab" + leftMore + abort + "x", "x|"},
		script{"fn" + tab + abort, "|"},
		script{"fn" + tab + abort + tab, "| !4"},
		script{"fn" + tab + abort + field, "| !4"},
		script{"fn" + tab + abort + "fn" + tab, "func [name>(a) { name } /1"},
		script{"fn" + tab + abort + "in" + tab + tab + tab + choice, "abc[yz> byz /3"},
		script{"v" + tab + abort + "v" + tab, "c\nbno | /1"},
		script{"ab" + enter + "x" + abort + older, "ab|"},
	)
	p := newPair(t).allNames().feed("ab"+enter+"fn"+tab+abort).held("ab", 1)
	for _, e := range []*Editor{p.typed, p.fed} {
		if x, is := e.Open(); is || len(x.Fields) != 0 || len(x.Text) != 0 || x.Active != 0 || len(e.See().Spans) != 0 {
			t.Errorf("%v, %t", x, is)
		}
	}
}
