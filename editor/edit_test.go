package editor

import (
	"strings"
	"testing"
)

// script is a script, and what is told behind it.
type script struct{ s, want string }

// hold holds scripts, each of them at once and key by key.
func hold(t *testing.T, prepare func(p *pair), l ...script) {
	t.Helper()
	for _, c := range l {
		p, q := newPair(t), newPair(t)
		if prepare != nil {
			prepare(p)
			prepare(q)
		}
		p.want(c.s, c.want)
		for i := range len(c.s) {
			q.feed(c.s[i : i+1])
		}
		q.is(c.s, c.want)
		if t.Failed() {
			t.Fatalf("%q", c.s)
		}
	}
}

// P24.2: to edit without an open session

func TestTyping(t *testing.T) {
	hold(t, nil,
		script{"", "|"},
		script{"a", "a|"},
		script{"abc", "abc|"},
		script{"a b", "a b|"},
		script{"aéb", "aéb|"},
		script{"a中\U0001F600", "a中\U0001F600|"},
		script{"a\u0301", "a\u0301|"},
		script{"~\u0080", "~\u0080|"},
		script{"a" + left + "b", "b|a"},
		script{"ac" + left + "b", "ab|c"},
		script{"ab" + leftMore + "x", "ax|"},
		script{"ab" + toStart + rightMore + rightMore + "x", "x|"},
		script{"ab" + line + line + "c", "ab\n\nc|"},
		script{"ab" + left + line, "a\n|b"},
		script{"ab" + left + "\x1b\r", "a\n|b"}, // Enter with Alt
		script{"\xff", "\uFFFD|"},
	)
}

func TestRemoving(t *testing.T) {
	hold(t, nil,
		script{"abc" + back, "ab|"},
		script{"abc" + left + back, "a|c"},
		script{"abc" + back + back + back + back, "|"},
		script{"abc" + left + del, "ab|"},
		script{"abc" + left + "\x1b[3~", "ab|"}, // Delete
		script{"abc" + toStart + del + del, "|c"},
		script{"ab" + line + "cd" + up + lineEnd + del, "ab|cd"},
		script{"ab" + line + "cd" + lineStart + back, "ab|cd"},
		script{"a b.c" + toStart + killWord, "| b.c"},
		script{"a b.c" + toStart + killWord + killWord, "|.c"},
		script{"a b" + line + "c" + toStart + killLine, "|\nc"},
		script{"a b" + line + "c" + toStart + killLine + killLine, "|c"},
		script{"a b" + line + "c" + toStart + killLine + killLine + killLine + killLine, "|"},
		script{"abc" + transpose, "acb|"},
		script{"abc" + transpose + transpose, "abc|"},
		script{"abc" + left + transpose, "acb|"},
		script{"abc" + left + left + transpose, "ba|c"},
		script{"a" + transpose, "a|"},
		script{"a" + left + transpose, "|a"},
		// Head counts, and the selection is gone.
		script{"abc" + leftMore + leftMore + transpose, "ba|c"},
		script{"abc" + toStart + rightMore + transpose, "ba|c"},
		script{"abc" + leftMore + leftMore + leftMore + transpose, "|abc"},
		// The text stays as it is, but not the selections: it is a change.
		script{"aa" + left + transpose, "aa|"},
		script{"aa" + left + transpose + undone, "a|a"},
		script{"abc" + leftMore + leftMore + leftMore + transpose + undone, "<abc]"},
	)
}

func TestEditsAtSeveral(t *testing.T) {
	hold(t, nil,
		script{"a" + line + "b" + lineStart + caretUp + "x", "x|a\nx|b"},
		script{"a" + line + "b" + lineStart + caretUp + "xy" + back, "x|a\nx|b"},
		script{"a" + line + "b" + caretUp + line, "a\n|\nb\n|"},
		// What lies between them is removed: they may become one.
		script{"a" + line + "b" + lineStart + caretUp + back, "|a|b"},
		script{line + line + caretUp + caretUp + back, "|"},
		script{line + line + caretUp + caretUp + del, "|"},
		script{line + line + caretUp + caretUp + killLine, "|"},
		script{"a b" + line + "c d" + lineStart + caretUp + killWord, "| b\n| d"},
		// One of them changes nothing.
		script{"a" + line + line + "b" + caretUp + caretUp + back, "|a|\n|"},
		script{line + "a" + caretUp + transpose, "|a\n|"},
	)
}

func TestYank(t *testing.T) {
	hold(t, nil,
		script{"abc" + yank, "abc| !4"},
		script{"abc" + killWord + killLine + yank, "abc| !4"}, // they killed nothing
		script{"ab cd" + lineStart + killWord + yank, "ab| cd"},
		script{"ab cd" + lineStart + killWord + yank + yank, "abab| cd"},
		script{"ab cd" + lineStart + killLine + yank, "ab cd|"},
		script{"ab cd" + lineStart + killWord + killWord + yank, " cd|"}, // the last one
		script{"ab cd" + lineStart + killWord + toEnd + killWord + killLine + yank, " cdab|"},
		script{"ab" + line + "cd" + up + killLine + toEnd + yank, "abcd\n|"},
		script{"ab" + leftMore + killWord + yank + yank, "abb|"},
		script{"abc" + leftMore + leftMore + killLine + yank + yank, "abcbc|"},
		// What others remove is not killed.
		script{"ab" + leftMore + back + yank, "a| !4"},
		script{"ab" + leftMore + del + yank, "a| !4"},
		script{"ab" + leftMore + "c" + yank, "ac| !4"},
		script{"ab" + transpose + yank, "ba| !4"},
		script{"a b" + lineStart + killWord + endMore + back + yank, "a|"},
		script{"a b" + lineStart + killWord + endMore + "x" + transpose + line + yank, "x\na|"},
		// At several: all that was killed, from the first one on.
		script{"ab" + line + "cd" + caretUp + lineStart + killWord + yank, "abcd|\nabcd|"},
		script{"ab" + line + "cd" + caretUp + leftMore + killLine + yank, "abd|\ncbd|"},
		script{"ab" + line + "cd" + caretUp + killLine + yank, "ab\n|cd\n|"},
		script{"ab" + line + caretUp + killWord + lineStart + killLine + killLine + killLine + yank, "\n|"},
		// In place of a selection.
		script{"ab" + lineStart + killWord + "cd" + leftMore + yank, "cab|"},
		// It stays with Undo, Abort and Accept.
		script{"ab" + lineStart + killWord + undone + yank, "ab|ab"},
		script{"ab" + lineStart + killWord + undone + redone + yank, "ab|"},
		script{"ab" + lineStart + killWord + "c" + abort + yank, "ab|"},
		script{"ab" + lineStart + killWord + "c" + enter + yank, "ab|"},
		script{"ab" + lineStart + killWord + "c" + enter + older + yank, "cab|"},
	)
}

// T3: at several carets, from the first one on, with an editor that has one caret.
func TestSeveralOneByOne(t *testing.T) {
	const text = "ab" + line + "cd" + line + "ef" + line
	for _, key := range []string{"x", line, back, del} {
		for column := range 3 {
			p := newPair(t).feed(text + up + strings.Repeat(right, column) + caretUp + caretUp)
			q := newPair(t).feed(text)
			places := p.typed.See().Sels
			if len(places) != 3 {
				t.Fatalf("%v", places)
			}
			p.feed(key)
			more := 0
			for _, s := range places {
				before := len(q.typed.See().Text)
				q.feed(toStart + strings.Repeat(right, s.Head+more) + key)
				more += len(q.typed.See().Text) - before
			}
			a, b := p.typed.See(), q.typed.See()
			if string(a.Text) != string(b.Text) || a.Sels[len(a.Sels)-1] != b.Sels[0] {
				t.Errorf("%d, %q: %q, %v, one by one %q, %v", column, key, string(a.Text), a.Sels, string(b.Text), b.Sels)
			}
		}
	}
}

// A text of as many runes as there may be

func TestFullText(t *testing.T) {
	a := strings.Repeat("a", 1998)
	newPair(t).want(a+"b", a+"b|").
		want("c", a+"bc|").
		want("d", a+"bc| !3").
		want(line, a+"bc| !3").
		want(yank, a+"bc| !4"). // named first
		want(tab, a+"bc| !4").
		want(transpose, a+"cb|").
		want(leftMore, a+"c<b]").
		want("x", a+"cx|").
		want("y", a+"cx| !3").
		want(undone, a+"c<b]").
		want(killWord, a+"c|").
		want(yank, a+"cb|").
		want(yank, a+"cb| !3").
		want(back, a+"c|").
		want("z", a+"cz|").
		want(undone, a+"c|").
		want(undone, a+"cb|")
	newPair(t).want(a[:1997]+line+"b"+caretUp, strings.Repeat("a", 1)+"|"+a[:1996]+"\nb|").
		want("c", "a|"+a[:1996]+"\nb| !3").
		want(back, "|"+a[:1996]+"\n|").
		want("c", "c|"+a[:1996]+"\nc|").
		want(killLine, "c|\nc|").
		want(yank, "c|\nc| !3")
	// At any time: the selection ahead, whose runes make room, comes later.
	newPair(t).want(a[:1998]+line+"b"+toStart+rightMore, "[a>"+a[:1997]+"\nb").
		want("c", "c|"+a[:1997]+"\nb").
		want(toEnd+caretUp, "c|"+a[:1997]+"\nb|").
		want(rightMore, "c[a>"+a[:1996]+"\nb|").
		want("d", "c[a>"+a[:1996]+"\nb| !3").
		want(back, "c|"+a[:1996]+"\n|").
		want("d", "cd|"+a[:1996]+"\nd|")
}
