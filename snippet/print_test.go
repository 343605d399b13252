package snippet

import (
	"math"
	"slices"
	"strconv"
	"strings"
	"testing"

	"stylus/api"
	"stylus/transform"
)

// P9.2, P9.3

// The canonical text is the same text, a shorter one, or a longer one.
func TestCanonicalTexts(t *testing.T) {
	for s, canonical := range map[string]string{
		"":                  "",
		"a":                 "a",
		"\\a":               "a",
		"}":                 "\\}",
		"\\{":               "{",
		"\\}":               "\\}",
		"$1":                "${1}",
		"$01":               "${1}",
		"${01}":             "${1}",
		"${1:}":             "${1}",
		"${00|a|}":          "${0|a|}",
		"${09/a/b/ig}":      "${9/a/b/gi}",
		"$a":                "${a}",
		"${a:}":             "${a}",
		"${1:\\a\\$\\{\\}}": "${1:a\\${\\}}",
		"${1|\\a\\$\\}|}":   "${1|a$}|}",
		"${1|a,\\,,\\||}":   "${1|a,\\,,\\||}",
		"${1/\\./\\a/}":     "${1/\\./\\a/}",
		"${1/\\//\\//g}":    "${1/\\//\\//g}",
		"${x:${y:$1}}":      "${x:${y:${1}}}",
		"a${1:b$2}":         "a${1:b${2}}",
	} {
		l, _, e := Parse([]rune(s))
		if e != api.OK {
			t.Errorf("Parse(%q): %d", s, e)
		}
		holdPrint(t, l, []rune(canonical))
	}
}

// Canonical texts up to the limit are parsed, and longer ones are printed all
// the same.
func TestLongCanonicalTexts(t *testing.T) {
	for _, c := range []struct{ s, canonical string }{{"$1", "${1}"}, {"}", "\\}"}, {"$a", "${a}"}, {"a", "a"}, {"\\a", "a"}, {"\\$", "\\$"}, {"${1:}", "${1}"}} {
		for _, n := range []int{1, 2, 79, 80, 81, 99, 100, 101, 132, 133, 134, 198, 199, 200, 201, 399, 400} {
			s := strings.Repeat(c.s, n)
			if len(s) > api.MaxSnip {
				continue
			}
			l, _, e := Parse([]rune(s))
			if e != api.OK {
				t.Errorf("Parse(%q): %d", s, e)
			}
			canonical := []rune(strings.Repeat(c.canonical, n))
			holdPrint(t, l, canonical)
			if len(canonical) > api.MaxSnip {
				holdError(t, canonical, 0, api.ErrFull)
			}
		}
	}
	// 399 in all, 400 and 401.
	for n := 199; n <= 201; n++ {
		s := strings.Repeat("}", n-2) + "$1"
		l, _, _ := Parse([]rune(s))
		holdPrint(t, l, []rune(strings.Repeat("\\}", n-2)+"${1}"))
		l, _, _ = Parse([]rune("x" + s))
		holdPrint(t, l, []rune("x"+strings.Repeat("\\}", n-2)+"${1}"))
	}
}

// spelling is a text with the part that it stands for, and the canonical text.
type spelling struct {
	s, canonical []rune
	x            Node
}

// escaped draws a text in a spelling. All runes that must have a \ have one.
func (s *steps) escaped(r []rune, must, canonical string) (spelled, printed []rune) {
	for _, c := range r {
		if among(c, must) || s.next(4) == 0 {
			spelled = append(spelled, '\\')
		}
		if among(c, canonical) {
			printed = append(printed, '\\')
		}
		spelled = append(spelled, c)
		printed = append(printed, c)
	}
	return spelled, printed
}

// runes draws a text of a few runes.
func (s *steps) runes() []rune {
	all := []rune("ab${}\\:/|,01gi_\né")
	var t []rune
	for range s.next(6) {
		t = append(t, all[s.next(len(all))])
	}
	return t
}

// pieces draws a text of a few pieces of a pattern or a format, as it is
// spelled, and what it stands for.
func (s *steps) pieces(all string) (spelled, t []rune) {
	for range s.next(5) {
		l := strings.Split(all, " ")
		piece := l[s.next(len(l))]
		spelled = append(spelled, []rune(piece)...)
		if !strings.HasPrefix(piece, "${") {
			piece = strings.ReplaceAll(piece, "\\/", "/")
		}
		t = append(t, []rune(piece)...)
	}
	return spelled, t
}

// transform draws a transform in a spelling.
func (s *steps) transform(x *Node) (spelled, printed []rune) {
	p, pattern := s.pieces("a b \\/ \\d \\\\ \\$ [\\/a] [^\\]] (?:x|\\/) \\/* $ :")
	f, format := s.pieces("a \\/ \\n \\\\ \\$ \\{ { } } : | $1 ${2} ${1:/upcase} ${1:+/} ${2:?\\:/:\\}\\/} ${1:-\\\\} ${1:${} g")
	x.Turn = true
	x.T = transform.Transform{Pattern: pattern, Format: format, All: s.next(2) == 0, Fold: s.next(2) == 0}
	options := ""
	if x.T.All {
		options = "g"
	}
	if x.T.Fold {
		options += "i"
	}
	turned := options
	if options == "gi" && s.next(2) == 0 {
		turned = "ig"
	}
	ahead := slices.Concat([]rune("/"), p, []rune("/"), f, []rune("/"))
	return slices.Concat(ahead, []rune(turned)), slices.Concat(ahead, []rune(options))
}

// choices draws choices in a spelling.
func (s *steps) choices(x *Node) (spelled, printed []rune) {
	x.Kind = Choice
	for i := range 1 + s.next(4) {
		between := "|,,,"[i]
		r := s.runes()
		x.Choices = append(x.Choices, r)
		a, b := s.escaped(r, ",|\\", ",|\\")
		spelled = append(append(spelled, rune(between)), a...)
		printed = append(append(printed, rune(between)), b...)
	}
	return append(spelled, '|'), append(printed, '|')
}

// subject draws a number or a name.
func (s *steps) subject() spelling {
	if s.next(2) == 0 {
		name := []rune(strings.Split("a b_1 _ TM_FILENAME x99", " ")[s.next(5)])
		return spelling{name, name, Node{Kind: Var, Name: name}}
	}
	n := s.next(100)
	d := []rune(strconv.Itoa(n))
	x := spelling{d, d, Node{Kind: Stop, N: n}}
	if n < 10 && s.next(2) == 0 {
		x.s = []rune{'0', d[0]}
	}
	return x
}

// part draws a part with braces in a spelling.
func (s *steps) part(depth int) spelling {
	x := s.subject()
	var spelled, printed []rune
	switch s.next(5) {
	case 0:
	case 1:
		if x.x.Kind == Stop {
			spelled, printed = s.choices(&x.x)
		}
	case 2:
		spelled, printed = s.transform(&x.x)
	default:
		spelled, printed, x.x.Subs = s.snippet(depth-1, "$}\\")
		spelled = append([]rune{':'}, spelled...)
		if len(printed) > 0 {
			printed = append([]rune{':'}, printed...)
		}
	}
	x.s = slices.Concat([]rune("${"), x.s, spelled, []rune("}"))
	x.canonical = slices.Concat([]rune("${"), x.canonical, printed, []rune("}"))
	return x
}

// snippet draws parts in a spelling, with a \ before each rune that must have
// one.
func (s *steps) snippet(depth int, must string) (spelled, printed []rune, l []Node) {
	for range s.next(4) {
		if depth == 0 || s.next(2) == 0 {
			if len(l) > 0 && l[len(l)-1].Kind == Text {
				continue
			}
			r := append(s.runes(), 'x')
			a, b := s.escaped(r, must, "$}\\")
			spelled, printed = append(spelled, a...), append(printed, b...)
			l = append(l, Node{Kind: Text, Name: r})
			continue
		}
		x := s.part(depth)
		spelled, printed = append(spelled, x.s...), append(printed, x.canonical...)
		l = append(l, x.x)
	}
	return spelled, printed, l
}

// Parts in one of their spellings are parsed to themselves, and printed in the
// canonical one.
func TestDrawnParts(t *testing.T) {
	choose := steps(2)
	held, deepest := 0, 0
	for range 100000 {
		spelled, printed, want := choose.snippet(9, "$\\")
		if len(spelled) > api.MaxSnip {
			continue
		}
		if l, at, e := Parse(spelled); e == api.ErrForm && at > 0 && spelled[at] == '/' {
			// Not each text of pieces is a pattern.
			if len(l) != 0 {
				t.Errorf("Parse(%q): %v, %d, %d", string(spelled), l, at, e)
			}
			continue
		}
		held++
		deepest = max(deepest, depth(want))
		holdParts(t, spelled, want...)
		holdPrint(t, want, printed)
	}
	if held < 50000 || deepest < 8 {
		t.Errorf("only %d snippets, and %d in one another", held, deepest)
	}
}

// depth returns how many parts are in one another.
func depth(l []Node) int {
	n := 0
	for _, x := range l {
		n = max(n, 1+depth(x.Subs))
	}
	return n
}

// Parts that Parse did not return are printed as some text. The call returns.
func TestPrintOtherParts(t *testing.T) {
	odd := []rune{-1, 'a', '$', '}', '\\', '/', ',', '|', math.MinInt32, math.MaxInt32, 1114112, 55296, 0}
	turns := []transform.Transform{{}, {Pattern: []rune{'\\'}, Format: []rune{'\\'}}, {Pattern: []rune("("), Format: []rune("$"), All: true}, {Pattern: []rune("a\\/\\"), Format: []rune("${"), Fold: true}, {Pattern: odd, Format: odd}, {Format: []rune("${1:+\\")}, {Format: []rune("${1/")}, {Pattern: make([]rune, 3000), Format: make([]rune, 3000)}}
	for _, kind := range []int{math.MinInt, -1, 0, 1, 2, 3, 4, 5, 6, 258, 1 << 32, math.MaxInt} {
		for _, n := range []int{math.MinInt, -1, 0, 7, 99, 100, 12345, math.MaxInt} {
			for _, name := range [][]rune{nil, {}, []rune("ab"), []rune("1a"), odd} {
				for _, choices := range [][][]rune{nil, {}, {nil}, {odd, nil, []rune("a")}} {
					for _, turn := range turns {
						x := Node{Kind: kind, N: n, Name: name, Choices: choices, T: turn}
						Print([]Node{x, x})
						x.Turn = true
						Print([]Node{x, x})
						x.Subs = []Node{x, {}, {Kind: Text, Name: odd}}
						Print([]Node{x})
					}
				}
			}
		}
	}
	deep := Node{Kind: Stop}
	for range 60000 {
		deep = Node{Kind: Stop, Subs: []Node{deep}}
	}
	Print([]Node{deep})
}

// What is not of a part's kind is not looked at.
func TestPrintLooksAtWhatIsThere(t *testing.T) {
	for n := range 100 {
		holdPrint(t, []Node{stop(n)}, []rune("${"+strconv.Itoa(n)+"}"))
	}
	holdPrint(t, []Node{stop(0, stop(1), text("a"), variable("b", choice(2, "c", "d")))}, []rune("${0:${1}a${b:${2|c,d|}}}"))
}

// R3

// spoil overwrites runes, also beyond their end.
func spoil(s []rune) {
	s = s[:cap(s)]
	for i := range s {
		s[i] = -7
	}
}

// spoilParts overwrites all that parts consist of.
func spoilParts(l []Node) {
	for _, x := range l {
		spoil(x.Name)
		spoil(x.T.Pattern)
		spoil(x.T.Format)
		for _, c := range x.Choices {
			spoil(c)
		}
		spoilParts(x.Subs)
		clear(x.Choices[:cap(x.Choices)])
	}
	clear(l[:cap(l)])
}

// lists returns all lists of runes that parts have.
func lists(l []Node) [][]rune {
	var all [][]rune
	for _, x := range l {
		all = append(append(all, x.Name, x.T.Pattern, x.T.Format), x.Choices...)
		all = append(all, lists(x.Subs)...)
	}
	return all
}

func TestMemory(t *testing.T) {
	for _, s := range append(rightSnippets(), "", "abc$name${other}${1|a,b|}${2/a\\/b/c\\/d/gi}${3:d$e}") {
		runes := append([]rune(s), 'x', 'y')
		arg := runes[:len(runes)-2]
		l, _, _ := Parse(arg)
		m, _, _ := Parse(arg)
		if string(runes) != s+"xy" {
			t.Errorf("Parse(%q) has changed its argument: %q", s, string(runes))
		}
		p, q := Print(l), Print(l)
		if !same(l, m) {
			t.Errorf("Print has changed the parts of %q: %v", s, l)
		}
		// Parts do not share with the text, with other parts or with what is printed.
		spoil(arg)
		if !same(l, m) {
			t.Errorf("Parse(%q) has kept its argument", s)
		}
		spoil(q)
		if again := Print(m); !same(l, m) || !slices.Equal(again, p) {
			t.Errorf("what is printed of %q is shared", s)
		}
		spoilParts(l)
		if again := Print(m); !slices.Equal(again, p) {
			t.Errorf("two calls of Parse(%q) share their parts", s)
		}
	}
}

// No two lists of one answer share anything, not even beyond their ends.
func TestListsOfOneAnswer(t *testing.T) {
	for _, s := range rightSnippets() {
		l, _, _ := Parse([]rune(s))
		all := lists(l)
		for i, x := range all {
			before := make([][]rune, len(all))
			for j, y := range all {
				before[j] = slices.Clone(y)
			}
			spoil(x)
			for j, y := range all {
				if j != i && !slices.Equal(y, before[j]) {
					t.Errorf("Parse(%q): lists %d and %d are shared", s, i, j)
				}
			}
			copy(x, before[i])
		}
	}
}

// R4

func TestCallsDoNotDependOnOthers(t *testing.T) {
	for range 100 {
		hold(t, "a${1:b$2}", "a${1:b${2}}", text("a"), stop(1, text("b"), stop(2)))
		holdDeep(t, strings.Repeat("${1:", 9)+"$1", 36)
		holdFault(t, "${1:${2:$-", 9)
		hold(t, "${1/a/b/ig}", "${1/a/b/gi}", turned(stop(1), "a", "b", "gi"))
		holdFault(t, "${1/(/b/g}", 3)
		hold(t, "${1|a,b|}", "${1|a,b|}", choice(1, "a", "b"))
		holdError(t, make([]rune, 401), 0, api.ErrFull)
		hold(t, nested(9, "${1:", "a"), nested(9, "${1:", "a"), nest(9, text("a"))...)
	}
}
