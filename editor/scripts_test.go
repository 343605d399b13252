package editor

import (
	"fmt"
	"strings"
	"testing"

	"stylus/keys"
)

// T1 to T5, by the chapter's words: scripts of all commands, with all of them held
// behind each key.

// someNames are abbreviations of all kinds.
var someNames = [][2]string{
	{"fn", "func ${1:name}(${2|a,b|}) { $1 }$0"},
	{"n", "-$0-"},
	{"m", "${1/a/<$0>/g} ${1:aba} ${1/(.)(.*)/$2$1/}"},
	{"in", "${1:a${2:b}c${3|x,yz,|}} $2$3"},
	{"0", "${0:end}."},
	{"v", "${V/b/c/}${W:no $1}$0"},
	{"o", "${2/a|x//g}${2:${1|a,b|}x}$0"},
	{"e", ""},
	{"d", "$1$1"},
}

// namesFor sets those of the names that may be expanded in a script that begins so.
func (p *pair) namesFor(script string) *pair {
	p.t.Helper()
	for _, n := range someNames {
		if strings.Contains(script+tab, n[0]+tab) {
			p.name(n[0], n[1])
		}
	}
	return p.value("V", "aba").value("V", "b\nb")
}

// allNames sets all of the names.
func (p *pair) allNames() *pair {
	p.t.Helper()
	for _, n := range someNames {
		p.name(n[0], n[1])
	}
	return p.value("V", "aba").value("V", "b\nb")
}

// starts are scripts that lead to states of all kinds.
var starts = []string{
	"",
	"abc", "abc" + left, "abc" + lineStart, "a b" + wordLeft,
	"ab" + line + "cd" + line + "e", "ab" + line + "cd" + up, "ab" + line + "cde" + toStart + right,
	"abc" + leftMore, "abc" + lineStart + rightMore + rightMore, "ab" + line + "cd" + upMore, "a bc" + wordLMore,
	"ab" + line + "cd" + caretUp, "ab" + line + "cd" + caretUp + left, "ab" + line + line + "cd" + caretUp + caretUp,
	"ab" + line + "cd" + caretUp + leftMore, "ab" + line + "cd" + line + "ef" + caretUp + caretUp + startMore, "a" + line + "a" + line + "a" + lineStart + caretUp + caretUp + rightMore,
	"aabb" + undone, "ab" + left + "c" + undone, "ab" + left + "c" + undone + undone, "ab" + left + "c" + undone + redone, "abc" + back + back + undone,
	"ab cd" + lineStart + killWord, "abc" + lineStart + killLine, "ab cd" + lineStart + killWord + killLine + yank, "abc" + leftMore + killWord + "x",
	"ab" + enter, "ab" + enter + "ac" + enter + "bab" + enter, "ab" + enter + "ac" + enter + "a" + older, "ab" + enter + "ac" + enter + "ad" + enter + "a" + older + older, "ab" + enter + "ac" + enter + "b" + search,
	"ab" + enter + "ac" + enter + "ab" + enter + older + older + newer, "ab" + enter + "ac" + enter + older + older + left, "ab" + enter + "x" + older + older, "ab" + enter + "ac" + enter + older + "x" + older, "ab" + enter + "ac" + enter + older + undone,
	"fn", "x fn", "fn" + tab, "fn" + tab + "x", "fn" + tab + tab, "fn" + tab + tab + tab, "fn" + tab + tab + choice, "fn" + tab + tab + field, "fn" + tab + "ab" + tab + "q" + undone,
	"fn" + tab + "x" + undone, "fn" + tab + "x" + undone + undone, "fn" + tab + undone + redone, "fn" + tab + one, "fn" + tab + one + undone, "fn" + tab + enter + older, "fn" + tab + toEnd, "fn" + tab + toStart,
	"n" + tab, "m" + tab, "m" + tab + "ab", "m" + tab + lineStart, "m" + tab + right + "a", "in" + tab, "in" + tab + tab, "in" + tab + tab + tab, "in" + tab + tab + tab + choice, "in" + tab + toStart + endMore, "in" + tab + tab + leftMore,
	"0" + tab, "v" + tab, "o" + tab, "o" + tab + choice, "o" + tab + tab, "e" + tab, "d" + tab, "d" + tab + "x", "d" + tab + "x" + left + left,
	"fn" + tab + "fn" + tab, "fn" + tab + toEnd + " fn" + tab, "fn" + tab + "x" + tab + tab + " m" + tab + undone + undone,
}

// parallel runs a test for each of n parts.
func parallel(t *testing.T, n int, f func(t *testing.T, part int)) {
	for part := range n {
		t.Run(fmt.Sprint(part), func(t *testing.T) {
			t.Parallel()
			f(t, part)
		})
	}
}

// From each of the starts, each two commands.
func TestAllPairsOfCommands(t *testing.T) {
	parallel(t, len(starts), func(t *testing.T, part int) {
		for _, a := range commandKeys {
			for _, b := range commandKeys {
				newPair(t).namesFor(starts[part]).feed(starts[part] + a).feed(b)
				if t.Failed() {
					t.Fatalf("%q, %q, %q", starts[part], a, b)
				}
			}
		}
	})
}

// From a few starts, each three commands.
func TestAllThreesOfCommands(t *testing.T) {
	few := []string{"ab" + enter + "fn", "ab" + line + "b" + caretUp + leftMore}
	parallel(t, len(few)*len(commandKeys), func(t *testing.T, part int) {
		start := few[part%len(few)] + commandKeys[part/len(few)]
		for _, a := range commandKeys {
			for _, b := range commandKeys {
				p := newPair(t).namesFor(start)
				p.do(p.decoder.Feed([]byte(start + a + b)))
				if t.Failed() {
					t.Fatalf("%q, %q, %q", start, a, b)
				}
			}
		}
	})
}

// both presses a key without anything being painted.
func (p *pair) both(k keys.Key) {
	p.t.Helper()
	p.press(k)
	p.fed.Do(k)
}

// thereAndBack holds T4: undone and redone as often as can be, all is as it was.
func (p *pair) thereAndBack() {
	p.t.Helper()
	for _, k := range []struct {
		there, back rune
		side        int
	}{{'z', 'x', 0}, {'x', 'z', 1}} {
		s := p.typed.See()
		x, is := p.typed.Open()
		n := p.words.size()[k.side]
		there, back := keys.Key{Kind: keys.Char, Rune: k.there, Mods: 4}, keys.Key{Kind: keys.Char, Rune: k.back, Mods: 4}
		for i := range n {
			p.both(there)
			if p.words.code != 0 {
				p.t.Errorf("%c, for the %d. time: %d", k.there, i, p.words.code)
			}
		}
		p.both(there)
		if p.words.code != 4 {
			p.t.Errorf("%c, once more: %d", k.there, p.words.code)
		}
		for range n {
			p.both(back)
		}
		now := p.typed.See()
		now.Code = s.Code
		y, open := p.typed.Open()
		if !sameSeen(s, now) || is != open || !sameSession(x, y) {
			p.t.Errorf("there and back: %s, want %s", told(now, y, open), told(s, x, is))
		}
	}
}

// snippet draws a snippet, with parts in one another up to a depth.
func (l *lot) snippet(deep int) string {
	s := ""
	for range 1 + l.draw(3) {
		n := l.draw(4)
		switch kind := l.draw(8); {
		case kind < 2 && deep > 0:
			s += fmt.Sprintf("${%d:%s}", n, l.snippet(deep-1))
		case kind < 3:
			s += fmt.Sprintf("${%d|%s,%s,ab|}", n, l.text(2), l.text(2))
		case kind < 4:
			s += fmt.Sprintf("${%d/%s/%s/%s}", n, []string{"a", "^.", ".*", "b|$"}[l.draw(4)], []string{"", "c", "$0a", "<$0>"}[l.draw(4)], []string{"", "g", "i"}[l.draw(3)])
		case kind < 5 && deep > 0:
			s += fmt.Sprintf("${%s:%s}", []string{"V", "W", "E"}[l.draw(3)], l.snippet(deep-1))
		case kind < 7:
			s += fmt.Sprintf("$%d ", n)
		default:
			s += l.text(3)
		}
	}
	return s
}

func (l *lot) text(most int) string {
	var b strings.Builder
	for range l.draw(most + 1) {
		b.WriteString([]string{"a", "b", "c", " ", "\n", "é", "中", "."}[l.draw(8)])
	}
	return b.String()
}

// key draws the bytes of a key: those that type more often than others, and those of
// one set more often than the rest.
func (l *lot) key(favourites []string) string {
	switch l.draw(4) {
	case 0:
		return []string{"a", "b", "c", "n", "x", "n", " ", "中", "fn", "."}[l.draw(10)]
	case 1:
		return favourites[l.draw(len(favourites))]
	case 2:
		return []string{"a" + tab, tab, "n" + tab, " n" + tab, choice, undone, redone, leftMore, rightMore}[l.draw(9)]
	}
	k := commandKeys[l.draw(len(commandKeys))]
	if (k == abort || k == enter) && l.draw(4) > 0 {
		return noKey
	}
	return k
}

// Drawn scripts, with drawn abbreviations and sizes; what is drawn more often is
// drawn, too.
func TestDrawnScripts(t *testing.T) {
	parallel(t, 16, func(t *testing.T, part int) {
		l := lot(part + 500)
		for range 60 {
			p := newPairOf(t, 1+l.draw(6), 1+l.draw(14))
			for _, name := range []string{"a", "n", "ab", ".", "x"} {
				p.name(name, l.snippet(3))
			}
			p.value("V", l.text(3)).value("E", "")
			script := ""
			favourites := []string{commandKeys[l.draw(len(commandKeys))], commandKeys[l.draw(len(commandKeys))], commandKeys[l.draw(len(commandKeys))]}
			for range 150 {
				k := l.key(favourites)
				script += k
				p.feed(k)
				if l.draw(60) == 0 {
					p.size(1+l.draw(6), 1+l.draw(14))
				}
				if t.Failed() {
					t.Fatalf("%q, with %v", script, p.words.names)
				}
			}
			p.thereAndBack()
		}
	})
}

// Drawn scripts of what makes steps, so that there are more of them than are kept.
func TestDrawnLongScripts(t *testing.T) {
	parallel(t, 8, func(t *testing.T, part int) {
		l := lot(part + 900)
		for range 8 {
			p := newPair(t).allNames()
			bias := 1 + l.draw(6)
			for range 400 {
				k := []string{back, "a", transpose, line, " fn" + tab, tab, choice, "m" + tab, left, right, undone, redone, undone + undone + undone, toEnd + " in" + tab, one}[l.draw(15)]
				if l.draw(bias) > 0 {
					k = []string{"b" + left, " fn" + tab + one, toEnd + " n" + tab, "x" + back}[l.draw(4)]
				}
				p.feed(k)
				if t.Failed() {
					return
				}
			}
			p.thereAndBack()
			p.feed("x")
			p.thereAndBack()
		}
	})
}

// Scripts whose text is about as long as it may be.
func TestDrawnScriptsOfLongTexts(t *testing.T) {
	parallel(t, 8, func(t *testing.T, part int) {
		l := lot(part + 700)
		for range 4 {
			p := newPair(t).allNames()
			p.feed(strings.Repeat("ab ", 650)[:1940+l.draw(10)] + toStart + killLine)
			p.feed(yank)
			for range 60 {
				k := l.key([]string{" fn" + tab, line, caretUp, yank, "abcdefgh"})
				if k == killLine {
					k = killWord
				}
				p.feed(k)
			}
			p.thereAndBack()
		}
	})
}
