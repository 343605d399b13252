package editor

import (
	"strings"
	"testing"

	"stylus/api"
	"stylus/expand"
	"stylus/session"
	"stylus/undo"
)

// P24.2: Expand, Field, Choice and Other

// naming returns what sets abbreviations, in pairs.
func naming(l ...string) func(p *pair) {
	return func(p *pair) {
		for i := 0; i+1 < len(l); i += 2 {
			p.name(l[i], l[i+1])
		}
	}
}

func TestAbbreviationAhead(t *testing.T) {
	hold(t, naming("fn", "<$0>", "n", "[$0]", ".n", "{$0}", "a.", "(a", "é", "(e", "x+y", "(xy"),
		script{tab, "| !4"},
		script{"a" + tab, "a| !4"},
		script{"f" + tab, "f| !4"},
		script{"fn" + tab, "<|>"},
		script{"x fn" + tab, "x <|>"},
		script{"x" + line + "fn" + tab, "x\n<|>"},
		script{"-fn" + tab, "-<|>"},
		script{"fnx" + left + tab, "<|>x"},
		script{"fn x" + left + tab, "fn |x !4"},
		script{"fn" + left + tab, "f|n !4"},
		script{"fn" + toStart + tab, "|fn !4"},
		// Inside a word there is none.
		script{"xfn" + tab, "xfn| !4"},
		script{"éfn" + tab, "éfn| !4"},
		script{"_n" + tab, "_n| !4"},
		script{"9n" + tab, "9n| !4"},
		// The longest one counts, and where it begins with no word rune it may follow one.
		script{"n" + tab, "[|]"},
		script{"x.n" + tab, "x{|}"},
		script{"x-n" + tab, "x-[|]"},
		script{"xa." + tab, "xa.| !4"},
		script{" a." + tab, " (a|"},
		script{"é" + tab, "(e|"},
		script{"ax+y" + tab, "ax+y| !4"},
		script{"-x+y" + tab, "-(xy|"},
		// Only at one caret.
		script{"fn" + leftMore + tab, "f<n] !4"},
		script{"fn" + toStart + endMore + tab, "[fn> !4"},
		script{"fn" + line + "fn" + caretUp + tab, "fn|\nfn| !4"},
		script{"fn" + line + "fn" + caretUp + one + tab, "<|>\nfn"},
		script{"fn" + line + "fn" + caretUp + leftMore + tab, "f<n]\nf<n] !4"},
	)
}

func TestExpandedWithoutSession(t *testing.T) {
	hold(t, naming("e", "", "w", "word", "o", "-$0-", "m", "-${0:ab}-$0", "c", "${0|a,b|}.", "t", "$0${0/a/b/}", "l", "a\n$0\nb"),
		script{"e" + tab, "|"},
		script{"x e" + tab, "x |"},
		script{"w" + tab, "word|"},
		script{"x w y" + left + left + tab, "x word| y"},
		script{"o" + tab, "-|-"},
		script{"m" + tab, "-[ab>-ab"},
		script{"c" + tab, "[a>."},
		script{"t" + tab, "|"},
		script{"l" + tab, "a\n|\nb"},
		// It is a Step, and no session is open.
		script{"w" + tab + undone, "w|"},
		script{"w" + tab + undone + redone, "word|"},
		script{"w" + tab + "x" + undone, "word|"},
		script{"aw" + left + tab, "a|w !4"},
		script{"m" + tab + "x", "-x|-ab"},
		script{"m" + tab + tab, "-[ab>-ab !4"},
		script{"c" + tab + choice, "[a>. !4"},
		script{"m" + tab + field, "-[ab>-ab !4"},
		script{"o" + tab + "e" + tab, "-|-"},
		script{"o" + tab + "w" + tab, "-word|-"},
		script{"e" + tab + caretUp, "| !4"},
		script{"l" + tab + caretUp, "|a\n|\nb"},
	)
}

func TestVariables(t *testing.T) {
	name := naming("v", "$X.", "d", "${X:-$Y-}.", "t", "${X/a/b/g}.", "s", "${Y:${1:q}}$0", "u", "${1:$X}$1")
	hold(t, name,
		script{"v" + tab, ".|"},
		script{"d" + tab, "--.|"},
		script{"t" + tab, ".|"},
		script{"s" + tab, "[q> /1"},
	)
	set := func(p *pair) {
		name(p)
		p.value("X", "old").value("X", "aba").value("Y", "").value("x", "no")
	}
	hold(t, set,
		script{"v" + tab, "aba.|"},
		script{"d" + tab, "aba.|"},
		script{"t" + tab, "bbb.|"},
		script{"s" + tab, "|"}, // it is set, and its parts are left out
		script{"u" + tab, "[aba>aba /1"},
	)
	// Of several values the one that was set last comes first, from then on.
	p := newPair(t)
	set(p)
	p.want("v"+tab, "aba.|").value("X", "new").want(abort+"v"+tab, "new.|").want(undone+undone, "|")
}

func TestExpandErrors(t *testing.T) {
	p := newPair(t).name("c", "${1:$2}${2:$1}").name("f", strings.Repeat("$1", 60)).name("g", strings.Repeat("$1", 59)).
		name("v", "$X").name("w", "${X}a").name("x", "$X$1").value("X", strings.Repeat("y", 1999)).name("d", "${1:$1}").name("n", "$Y$X")
	p.want("c"+tab, "c| !5").
		want(abort+"d"+tab, "d| !5").
		want(abort+"f"+tab, "f| !3"). // 60 and the last one
		want(abort+"g"+tab, "| /1").
		want(abort+"w"+tab+enter, "|")
	if s := p.typed.See(); len(s.Line) != 2000 {
		t.Errorf("%d runes", len(s.Line))
	}
	y := strings.Repeat("y", 1999)
	p.want("v"+tab, y+"|").
		want(abort+" x"+tab, " "+y+"| /1").
		want("a", " "+y+"| /1 !3"). // a mirror of it needs no room, but the text is full
		want(abort+" w"+tab, " w| !3").
		want(abort+"- x"+tab, "- x| !3").
		want(tab, "- x| !3").
		want("z"+tab, "- xz| !4").
		want(back+left+back+tab, "-|x !4").
		want(right+tab, "-"+y+"| /1")
	p.value("X", y+"yy").want(abort+"v"+tab, "v| !3").want(abort+"w"+tab, "w| !3").value("Y", "b").want(abort+"n"+tab, "n| !3")
	// No draft, no place, nothing of a session is touched.
	p.want(undone, "|").want(redone, "n|").want(choice, "n| !4")
}

// Expand and Field over all numbers, some of which are left out.
func TestNumbersOneByOne(t *testing.T) {
	hold(t, naming("n", "${3:c}-${1:a}-$1-${7:gg}-$0.", "z", "${2:b}$0${1:a}", "one", "<$1>", "in", "${1:a${2:b}c}$0"),
		script{"n" + tab, "c-[a>-a-gg-. /1"},
		script{"n" + tab + tab, "[c>-a-a-gg-. /3"},
		script{"n" + tab + tab + tab, "c-a-a-[gg>-. /7"},
		script{"n" + tab + tab + tab + tab, "c-a-a-gg-|."},
		script{"n" + tab + tab + tab + tab + tab, "c-a-a-gg-|. !4"},
		script{"n" + tab + field, "c-[a>-a-gg-. /1 !4"},
		script{"n" + tab + tab + field, "c-[a>-a-gg-. /1"},
		script{"n" + tab + tab + tab + field, "[c>-a-a-gg-. /3"},
		script{"n" + tab + tab + tab + field + field, "c-[a>-a-gg-. /1"},
		script{"n" + tab + tab + tab + field + field + field, "c-[a>-a-gg-. /1 !4"},
		script{"n" + tab + tab + tab + field + tab, "c-a-a-[gg>-. /7"},
		script{"n" + tab + tab + tab + tab + field, "c-a-a-gg-|. !4"},
		script{"n" + tab + "xy" + tab + "z" + tab + back + tab + "!", "z-xy-xy--!|."},
		script{"n" + tab + toStart + tab, "[c>-a-a-gg-. /3"}, // wherever the caret is
		script{"n" + tab + tab + toEnd + field, "c-[a>-a-gg-. /1"},
		script{"n" + tab + tab + tab + tab + undone, "n|"}, // all of it was Moved
		script{"n" + tab + tab + tab + tab + undone + redone, "c-a-a-gg-|."},
		script{"n" + tab + redone + tab, "[c>-a-a-gg-. /3"},
		script{"z" + tab, "b[a> /1"},
		script{"z" + tab + tab, "[b>a /2"},
		script{"z" + tab + tab + tab, "b|a"},
		script{"one" + tab, "<|> /1"},
		script{"one" + tab + tab, "<>|"},
		script{"one" + tab + one + tab, "<|> !4"},
		script{"in" + tab, "[abc> /1"},
		script{"in" + tab + tab, "a[b>c /2"},
		script{"in" + tab + tab + "x" + field, "[axc> /1"},
		script{"in" + tab + "x" + tab, "x| /2"},
		script{"in" + tab + "x" + tab + "y" + field, "[xy> /1"},
		script{field, "| !4"},
		script{"n" + field, "n| !4"},
	)
}

// Later states stay where another number became active.
func TestNumbersAreMoved(t *testing.T) {
	hold(t, naming("n", "${1:a}${2:b}"),
		script{"n" + tab + "x" + undone + tab + redone, "x|b /1"},
		script{"n" + tab + "x" + undone + tab + field + redone, "x|b /1"},
		script{"n" + tab + "x" + undone + tab + tab + redone, "x|b /1"},
		script{"n" + tab + "x" + undone + one + redone, "x|b /1"},
		script{"n" + tab + "x" + undone + tab + tab + redone + undone, "ab|"},
	)
}

func TestChoices(t *testing.T) {
	hold(t, naming("c", "${1|a,bc,d|}-$1-${2:e}", "s", "${1|a|}$0", "e", "${1|a,b,a|}.", "z", "${1|a,,b|}.", "t", "${1|a,b|}${1/a/xyz/}$0", "two", "${1|a,b|}${1|c,d|}$0"),
		script{choice, "| !4"},
		script{other, "| !4"},
		script{"c" + choice, "c| !4"},
		script{"c" + tab, "[a>-a-e /1"},
		script{"c" + tab + choice, "[bc>-bc-e /1"},
		script{"c" + tab + choice + choice, "[d>-d-e /1"},
		script{"c" + tab + choice + choice + choice, "[a>-a-e /1"},
		script{"c" + tab + other, "[d>-d-e /1"},
		script{"c" + tab + other + other, "[bc>-bc-e /1"},
		script{"c" + tab + other + other + other, "[a>-a-e /1"},
		script{"c" + tab + choice + other, "[a>-a-e /1"},
		script{"c" + tab + other + choice, "[a>-a-e /1"},
		script{"c" + tab + "x" + choice, "[a>-a-e /1"}, // it has none of them
		script{"c" + tab + "x" + other, "[a>-a-e /1"},
		script{"c" + tab + "bc" + choice, "[d>-d-e /1"},
		script{"c" + tab + "bc" + other, "[a>-a-e /1"},
		script{"c" + tab + toEnd + choice, "[bc>-bc-e /1"},
		script{"c" + tab + tab + choice, "a-a-[e> /2 !4"}, // without choices
		script{"c" + tab + tab + other, "a-a-[e> /2 !4"},
		script{"c" + tab + tab + tab + choice, "a-a-e| !4"},
		script{"c" + tab + one + choice, "[a>-a-e !4"},
		script{"c" + tab + choice + tab + field, "[bc>-bc-e /1"},
		// Each is a Step, also if the text stays.
		script{"c" + tab + choice + choice + undone, "[bc>-bc-e /1"},
		script{"c" + tab + choice + choice + undone + undone, "[a>-a-e /1"},
		script{"c" + tab + choice + "x" + undone, "[bc>-bc-e /1"},
		script{"c" + tab + "x" + choice + undone, "x|-x-e /1"},
		script{"s" + tab + choice, "[a> /1"},
		script{"s" + tab + other, "[a> /1"},
		script{"s" + tab + choice + undone, "[a> /1"},
		script{"s" + tab + choice + undone + undone, "s|"},
		script{"s" + tab + toStart + choice + undone, "|a /1"},
		script{"e" + tab + choice + choice, "[a>. /1"},
		script{"e" + tab + choice + choice + choice, "[b>. /1"},
		script{"e" + tab + other, "[a>. /1"},
		script{"z" + tab + choice, "|. /1"},
		script{"z" + tab + choice + choice, "[b>. /1"},
		script{"z" + tab + back + choice, "[b>. /1"},
		script{"t" + tab, "[a>xyz /1"},
		script{"t" + tab + choice, "[b>b /1"},
		script{"t" + tab + choice + choice, "[a>xyz /1"},
		script{"two" + tab + choice, "[b>b /1"},
	)
	y := strings.Repeat("y", 1993)
	p := newPair(t).name("c", "${1|a,bcde|}$1").value("Y", y).name("y", "$Y$0")
	p.want("y"+tab+" c"+tab, y+" [a>a /1").want(choice, y+" [a>a /1 !3").want(other, y+" [a>a /1 !3").want(undone+undone, y+"|").want(redone+redone, y+" [a>a /1")
}

// A session that is over is closed, with a caret at 0 if a primary was to be selected.
func TestOverByAChoice(t *testing.T) {
	hold(t, func(p *pair) { p.allNames() },
		script{"o" + tab, "[a>x /1"},
		script{"o" + tab + choice, "|" + strings.Repeat("b", 7) + "x"},
		script{"o" + tab + other, "|" + strings.Repeat("b", 7) + "x"},
		script{"o" + tab + choice + choice, "|" + strings.Repeat("b", 7) + "x !4"},
		script{"o" + tab + choice + tab, "|" + strings.Repeat("b", 7) + "x !4"},
		script{"o" + tab + choice + "c", "c|" + strings.Repeat("b", 7) + "x"},
		script{"o" + tab + choice + undone, "[a>x /1"},
		script{"o" + tab + choice + undone + redone, "|" + strings.Repeat("b", 7) + "x"},
		script{"- o" + tab + choice, "|- " + strings.Repeat("b", 7) + "x"},
	)
}

// begin makes a session the current state everywhere, as a Step.
func (p *pair) begin(x session.State, l ...api.Sel) *pair {
	for _, e := range []*Editor{p.typed, p.fed} {
		e.last++
		if e.begun == nil {
			e.begun = map[int][]expand.Field{}
		}
		e.begun[e.last] = x.Fields
		s := stateOf(x, e.last, api.Sel{})
		s.Sels = l
		e.log.Do(undo.Step, s)
	}
	p.words.change(1, moment{x.Text, l, &x})
	return p
}

// No snippet makes a session with a number without a primary, or one with several
// selections; a caret at 0 takes the place of the primary's span.
func TestSessionsThatNoSnippetMakes(t *testing.T) {
	span := func(from, to int) api.Span { return api.Span{From: from, To: to} }
	x := session.State{Text: []rune("abcd"), Active: 2, Fields: []expand.Field{
		{N: 1, Span: span(1, 2), Up: -1},
		{N: 2, Span: span(2, 3), Up: -1, Primary: true, Choices: [][]rune{{'x'}}},
		{N: 3, Span: span(3, 4), Up: -1},
	}}
	at := func() *pair { return newPair(t).begin(x, carets(2)...) }
	at().want("", "ab|cd /2")
	at().want("x", "abx|cd /2")
	at().want(field, "|abcd /1")
	at().want(field+"x", "|xabcd /1") // the caret that takes its place stays at 0
	at().want(field+right+"x", "ax|bcd /1")
	at().want(field+choice, "|abcd /1 !4")
	at().want(tab, "|abcd /3")
	at().want(tab+tab, "|abcd")
	at().want(tab+right+tab, "a|bcd") // there is no next number: the selections stay
	at().want(tab+right+rightMore+tab, "a[b>cd")
	at().want(tab+field, "ab[c>d /2")
	at().want(choice, "ab[x>d /2")
	// An active number that is none of them.
	y := x
	y.Active = 9
	newPair(t).begin(y, carets(2)...).want(tab, "ab|cd")
	newPair(t).begin(y, carets(2)...).want(field, "ab|cd /9 !4")
	newPair(t).begin(y, carets(2)...).want(choice, "ab|cd /9 !4")
	newPair(t).begin(y, carets(2)...).want("x", "abx|cd /9")
	// The first selection counts.
	several := []api.Sel{{Anchor: 1, Head: 0}, {Anchor: 2, Head: 3}}
	newPair(t).begin(x, several...).want("", "<a]b[c>d /2")
	newPair(t).begin(x, several...).want("x", "x|bcd /2")
	newPair(t).begin(x, several...).want(killWord, "|bcd /2")
	newPair(t).begin(x, carets(1, 3)...).want("x", "ax|bcd /2")
	newPair(t).begin(x, carets(2, 4)...).want("x", "abx|cd /2")
	newPair(t).begin(x, carets(0, 4)...).want(back, "|abcd| /2")
	newPair(t).begin(x, several...).want(left, "|ab|cd /2")
	newPair(t).begin(x, several...).want(tab, "|abcd /3")
	newPair(t).begin(x, several...).want(one, "<a]b[c>d")
	newPair(t).begin(x, several...).want(one+one, "|abcd")
	newPair(t).begin(x, several...).want(caretDown, "<a]b[c>d /2 !4")
	newPair(t).begin(x, several...).want(choice, "ab[x>d /2")
}
