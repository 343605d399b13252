package editor

import (
	"strings"
	"testing"
)

// P24.2: to edit with an open session

func TestEditsOfAPrimary(t *testing.T) {
	// (ab-ab), with the first ab as the primary.
	hold(t, naming("s", "(${1:ab}-$1)"),
		script{"s" + tab, "([ab>-ab) /1"},
		// In place of it, within it, at its ends.
		script{"s" + tab + "x", "(x|-x) /1"},
		script{"s" + tab + "xyz", "(xyz|-xyz) /1"},
		script{"s" + tab + back, "(|-) /1"},
		script{"s" + tab + del, "(|-) /1"},
		script{"s" + tab + back + "x", "(x|-x) /1"},
		script{"s" + tab + left + "x", "(x|ab-xab) /1"},
		script{"s" + tab + right + "x", "(abx|-abx) /1"},
		script{"s" + tab + left + right + "x", "(ax|b-axb) /1"},
		script{"s" + tab + left + right + line, "(a\n|b-a\nb) /1"},
		script{"s" + tab + left + del, "(|b-b) /1"},
		script{"s" + tab + right + back, "(a|-a) /1"},
		script{"s" + tab + right + left + back, "(|b-b) /1"},
		script{"s" + tab + right + left + killWord, "(a|-a) /1"},
		script{"s" + tab + right + transpose, "(a-b|a-b) /1"},
		script{"s" + tab + right + left + transpose, "(ba|-ba) /1"},
		// At its ends, but of what is outside.
		script{"s" + tab + left + back, "|ab-ab) /1"},
		script{"s" + tab + right + del, "(ab|ab) /1"},
		script{"s" + tab + right + killLine, "(ab|ab /1"},
		script{"s" + tab + left + transpose, "a(|b-a(b) /1"},
		// Over one of its ends.
		script{"s" + tab + left + left + rightMore + rightMore + "x", "x|b-xb) /1"},
		script{"s" + tab + left + right + rightMore + rightMore + "x", "(ax|ax) /1"},
		script{"s" + tab + left + right + rightMore + rightMore + back, "(a|a) /1"},
		script{"s" + tab + left + right + killLine, "(a|a /1"},
		// Over both, and over all.
		script{"s" + tab + left + left + rightMore + rightMore + rightMore + rightMore + "x", "x|x) /1"},
		script{"s" + tab + toStart + endMore + "x", "x|x /1"},
		script{"s" + tab + toStart + endMore + back, "| /1"},
		script{"s" + tab + toStart + endMore + back + "y", "y|y /1"},
		script{"s" + tab + toStart + endMore + back + "y" + tab, "yy|"},
		script{"s" + tab + toStart + killLine, "| /1"},
	)
}

func TestEditsOutsideOfThePrimary(t *testing.T) {
	hold(t, naming("s", "(${1:ab}-$1)", "w", "xyz", "two", "${1:a}-${2:b}-$1-$2", "e", "${1:ab}-$1"),
		script{"s" + tab + toStart + "x", "x|(ab-ab) /1"},
		script{"s" + tab + toEnd + "x", "(ab-ab)x| /1"},
		script{"s" + tab + toEnd + back, "(ab-ab| /1"},
		script{"s" + tab + toStart + del, "|ab-ab) /1"},
		script{"s" + tab + right + right + "x", "(ab-x|ab) /1"},
		script{"s" + tab + toEnd + left + "x", "(ab-abx|) /1"},
		script{"s" + tab + toStart + rightMore + "x", "x|ab-xab) /1"},
		// In a mirror, which has the text of the primary again.
		script{"s" + tab + right + right + right + "x", "(ab-ab|) /1"},
		script{"s" + tab + right + right + right + del, "(ab-a|b) /1"},
		script{"s" + tab + right + right + right + back, "(ab-|ab) /1"},
		script{"s" + tab + right + right + killWord, "(ab-|ab) /1"},
		script{"s" + tab + right + right + killLine, "(ab-|ab /1"},
		script{"s" + tab + right + right + right + transpose, "(ab-ba|ab) /1"},
		script{"e" + tab + right + right + right + "x", "ab-ab| /1"},
		script{"e" + tab + toEnd + "x", "ab-abx| /1"},
		script{"e" + tab + right + right + endMore + "x", "ab-x|ab /1"},
		script{"e" + tab + right + endMore + "x", "abx|abx /1"},
		// It stays, but at most at the end of the text.
		script{"w" + lineStart + killWord + "e" + tab + right + right + right + yank, "ab-ab| /1"},
		script{"xyz" + lineStart + killWord + "e" + tab + right + right + right + yank, "ab-ab| /1"},
		script{"xyz" + lineStart + killWord + "s" + tab + right + right + right + yank, "(ab-ab)| /1"},
		// In another primary, and its mirror.
		script{"two" + tab + right + right + "x", "a-x|b-a-b /1"},
		script{"two" + tab + right + right + right + "x", "a-bx|-a-b /1"},
		script{"two" + tab + tab + toStart + "x", "x|a-b-a-b /2"},
		script{"two" + tab + tab + "x", "a-x|-a-x /2"},
		script{"two" + tab + right + right + rightMore + "x", "a-x|-a- /1"},
		script{"two" + tab + toStart + endMore + "x", "x|x /1"},
		script{"two" + tab + toStart + endMore + "x" + tab + "y", "xxy|y /2"},
	)
}

func TestMirrorsOnBothSides(t *testing.T) {
	hold(t, func(p *pair) { p.allNames() },
		// <a>b<a> aba baa: the second one is the primary.
		script{"m" + tab, "<a>b<a> [aba> baa /1"},
		script{"m" + tab + "x", "x x| x /1"},
		script{"m" + tab + "xa", "x<a> xa| ax /1"},
		script{"m" + tab + "xa" + back, "x x| x /1"},
		script{"m" + tab + "xa" + back + back, " |  /1"},
		script{"m" + tab + left + "a", "<a><a>b<a> a|aba abaa /1"},
		script{"m" + tab + left + "aa", "<a><a><a>b<a> aa|aba aabaa /1"},
		script{"m" + tab + left + del, "b<a> |ba ab /1"},
		script{"m" + tab + left + right + "a", "<a><a>b<a> aa|ba abaa /1"},
		script{"m" + tab + right + "a", "<a>b<a><a> abaa| baaa /1"},
		script{"m" + tab + right + back, "<a>b ab| ba /1"},
		script{"m" + tab + right + transpose, "<a>b <a> ab a|b aa /1"},
		// Of what is ahead, a mirror among it.
		script{"m" + tab + toStart + rightMore + back, "|<a>b<a> aba baa /1"},
		script{"m" + tab + toStart + "a", "a|<a>b<a> aba baa /1"},
		script{"m" + tab + toStart + killWord, "|<a>b<a> aba baa /1"},
		// A mirror with a transform that is itself edited.
		script{"m" + tab + toStart + right + "a", "<a|>b<a> aba baa /1"},
	)
}

func TestFieldsInOneAnother(t *testing.T) {
	// abcx bx: 1 has 2 (b) and 3 (x) in it, whose mirrors follow.
	hold(t, func(p *pair) { p.allNames() },
		script{"in" + tab, "[abcx> bx /1"},
		script{"in" + tab + "q", "q|  /1"},
		script{"in" + tab + "q" + tab, "q|  /2"},
		script{"in" + tab + "q" + tab + "w", "qw| w /2"},
		script{"in" + tab + "q" + tab + "w" + tab + "e", "qwe| we /3"},
		script{"in" + tab + "q" + tab + "w" + tab + choice, "qw[x> wx /3"},
		script{"in" + tab + tab, "a[b>cx bx /2"},
		script{"in" + tab + tab + "qw", "aqw|cx qwx /2"},
		script{"in" + tab + tab + back, "a|cx x /2"},
		script{"in" + tab + tab + left + "q", "aq|bcx qbx /2"},
		script{"in" + tab + tab + right + "q", "abq|cx bqx /2"},
		script{"in" + tab + tab + "q" + field, "[aqcx> qx /1"},
		script{"in" + tab + tab + tab, "abc[x> bx /3"},
		script{"in" + tab + tab + tab + "q", "abcq| bq /3"},
		script{"in" + tab + tab + tab + choice, "abc[yz> byz /3"},
		script{"in" + tab + tab + tab + choice + field + field, "[abcyz> byz /1"},
		// At both ends of the outer one.
		script{"in" + tab + left + "q", "q|abcx bx /1"},
		script{"in" + tab + right + "q", "abcxq| bx /1"},
		script{"in" + tab + right + "q" + tab + tab + choice, "abc[yz>q byz /3"},
		script{"in" + tab + tab + tab + right + "q" + field + field, "[abcxq> bxq /1"},
		// In a field that is in it, and over its end.
		script{"in" + tab + left + right + "q", "aq|bcx bx /1"},
		script{"in" + tab + left + right + rightMore + "q", "aq|cx x /1"},
		script{"in" + tab + left + right + rightMore + rightMore + rightMore + "q" + tab, "aq|  /2"},
		script{"in" + tab + left + right + right + rightMore + rightMore + rightMore + "q", "abq|b /1"},
	)
}

// The session is over: no fields are left, so that the active number has no primary.
func TestOverByAnEdit(t *testing.T) {
	const over = "x|xxxxxaaaaaa"
	hold(t, naming("o", "$1${1:a}"),
		script{"o" + tab, "a[a> /1"},
		script{"o" + tab + toStart + rightMore + "x", over},
		script{"o" + tab + toStart + rightMore + "x" + "y", "xy|xxxxxaaaaaa"},
		script{"o" + tab + toStart + rightMore + "x" + tab, over + " !4"},
		script{"o" + tab + toStart + rightMore + "x" + field, over + " !4"},
		script{"o" + tab + toStart + rightMore + "x" + undone, "[a>a /1"},
		script{"o" + tab + toStart + rightMore + "x" + undone + redone, over},
		script{"o" + tab + toStart + rightMore + "x" + undone + tab, "aa|"},
		script{"o" + tab + toStart + rightMore + back, "a|a /1"},
		script{"o" + tab + toStart + rightMore + line, "\n|\n\n\n\n\naaaaaa"},
		// Further edits are not held by it.
		script{"o" + tab + toStart + rightMore + "x" + toEnd + "y", strings.ReplaceAll(over, "|", "") + "y|"},
		script{"o" + tab + toStart + rightMore + "x" + lineStart + del, "|xxxxxaaaaaa"},
	)
	p := newPair(t).name("o", "$1${1:a}").feed("o" + tab + toStart + rightMore + "x")
	for _, e := range []*Editor{p.typed, p.fed} {
		if s := e.log.Now(); s.Session != 0 || len(s.Spans) != 0 || len(e.See().Spans) != 0 {
			t.Errorf("%d, %v", s.Session, s.Spans)
		}
	}
}

// Nothing is done where nothing is removed or inserted; otherwise there is a change,
// also if a mirror brings all back.
func TestChangesInASession(t *testing.T) {
	hold(t, naming("a", "b$1", "s", "${1:a}-${1/x/y/}"),
		script{"a" + tab, "b| /1"},
		script{"a" + tab + "cd" + undone, "b| /1"},
		script{"a" + tab + "c" + del + killWord + killLine + "d" + undone, "b| /1"},
		script{"a" + tab + "cd" + undone + del + redone, "bcd| /1"},
		script{"a" + tab + "c" + line + "d" + undone, "bc\n| /1"},
		script{"a" + tab + "c" + line + "d" + undone + undone, "bc| /1"},
		script{"a" + tab + "c" + right + "d" + undone, "bc| /1"},
		script{"a" + tab + "c" + tab + "d" + undone, "bc|"},
		script{"a" + tab + "cd" + tab + undone, "b| /1"},
		script{"a" + tab + "cd" + back + undone, "bcd| /1"},
		script{"a" + tab + toStart + back + "x" + undone, "|b /1"},
		script{"a" + tab + toStart + transpose + "x" + undone, "|b /1"},
		// The caret of a selection that is moved by nothing stays one.
		script{"a" + tab + leftMore + transpose, "<b] /1"},
		script{"s" + tab + toEnd + left + "x" + undone, "a-|a /1"},
		script{"s" + tab + toEnd + left + del, "a-|a /1"},
		script{"s" + tab + toEnd + left + del + undone, "a-|a /1"},
		script{"s" + tab + toEnd + left + del + undone + undone, "s|"},
		script{"s" + tab + toEnd + back + undone, "a-a| /1"},
	)
}

func TestKilledInASession(t *testing.T) {
	hold(t, naming("s", "(${1:ab}-$1) $0"),
		script{"s" + tab + yank, "([ab>-ab)  /1 !4"},
		script{"s" + tab + back + yank, "(|-)  /1 !4"},
		script{"s" + tab + "x" + transpose + yank, "(-x|-x)  /1 !4"},
		script{"s" + tab + killWord + yank, "(ab|-ab)  /1"},
		script{"s" + tab + killLine + yank + yank, "(abab|-abab)  /1"},
		script{"s" + tab + killWord + tab + yank, "(-) ab|"},
		script{"s" + tab + left + right + killLine + yank, "(ab-ab) |ab-ab)  /1"},
		script{"s" + tab + toEnd + killLine + yank, "(ab-ab) | /1 !4"},
		script{"s" + tab + killWord + toEnd + killLine + killWord + yank, "(-) ab| /1"},
		script{"s" + tab + killWord + undone + yank, "(ab|-ab)  /1"},
		script{"ab" + lineStart + killWord + "s" + tab + yank, "(ab|-ab)  /1"},
		// In a mirror: what was removed, though it is there again.
		script{"s" + tab + toEnd + left + left + left + killLine + toStart + yank, "b) |(ab-ab /1"},
		script{"s" + tab + toEnd + left + left + left + leftMore + killWord + yank, "(ab-a|ab)  /1"},
	)
}

// With an error nothing changes, also not what was killed.
func TestFullTextInASession(t *testing.T) {
	y := strings.Repeat("y", 1990) + " "
	p := newPair(t).name("y", "$Y$0").value("Y", y).name("k", "${1:ab}${1/^$/xxxxxxxxxx/}").name("m", "$1$1$1")
	p.want("y"+tab+"m"+tab, y+"| /1").
		want("abc", y+"abc|abcabc /1"). // 2000
		want("d", y+"abc|abcabc /1 !3").
		want(line, y+"abc|abcabc /1 !3").
		want(yank, y+"abc|abcabc /1 !4").
		want(transpose, y+"abc|abcabc /1 !3"). // which would make it abac
		want(back, y+"ab|abab /1").
		want(leftMore+killWord+yank, y+"ab|abab /1").
		want("cd", y+"abc|abcabc /1 !3").
		want(yank, y+"abc|abcabc /1 !3").
		want(undone, y+"ab|abab /1")
	p.want(abort+"y"+tab+"k"+tab, y+"[ab>ab /1").
		want(killWord, y+"[ab>ab /1 !3").
		want(killLine, y+"[ab>ab /1 !3").
		want(back, y+"[ab>ab /1 !3").
		want(right+yank, y+"abb|abb /1"). // killed above
		want(undone+undone, y+"k|")
}
