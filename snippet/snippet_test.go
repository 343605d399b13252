package snippet

import (
	"math"
	"slices"
	"strconv"
	"strings"
	"testing"

	"stylus/api"
	"stylus/transform"
)

func text(s string) Node {
	return Node{Kind: Text, Name: []rune(s)}
}

func stop(n int, subs ...Node) Node {
	return Node{Kind: Stop, N: n, Subs: subs}
}

func variable(name string, subs ...Node) Node {
	return Node{Kind: Var, Name: []rune(name), Subs: subs}
}

func choice(n int, choices ...string) Node {
	x := Node{Kind: Choice, N: n}
	for _, c := range choices {
		x.Choices = append(x.Choices, []rune(c))
	}
	return x
}

// turned returns a part with a transform. The options are letters.
func turned(x Node, pattern, format, options string) Node {
	x.Turn = true
	x.T = transform.Transform{Pattern: []rune(pattern), Format: []rune(format), All: strings.Contains(options, "g"), Fold: strings.Contains(options, "i")}
	return x
}

// same compares all fields; a nil list and an empty one are the same.
func same(l, m []Node) bool {
	return slices.EqualFunc(l, m, func(x, y Node) bool {
		return x.Kind == y.Kind && x.N == y.N && slices.Equal(x.Name, y.Name) && same(x.Subs, y.Subs) &&
			slices.EqualFunc(x.Choices, y.Choices, slices.Equal[[]rune]) &&
			x.Turn == y.Turn && slices.Equal(x.T.Pattern, y.T.Pattern) && slices.Equal(x.T.Format, y.T.Format) && x.T.All == y.T.All && x.T.Fold == y.T.Fold
	})
}

// holdParts holds that a snippet is parsed to these parts.
func holdParts(t *testing.T, s []rune, want ...Node) {
	t.Helper()
	l, at, e := Parse(s)
	if !same(l, want) || at != 0 || e != api.OK {
		t.Errorf("Parse(%q): %v, %d, %d, want %v", string(s), l, at, e, want)
	}
}

// holdPrint holds the canonical text of parts that Parse returned, and, if it
// is not too long, that it is parsed to the same parts.
func holdPrint(t *testing.T, l []Node, want []rune) {
	t.Helper()
	p := Print(l)
	if !slices.Equal(p, want) {
		t.Errorf("Print(%v): %q, want %q", l, string(p), string(want))
	}
	if len(p) > api.MaxSnip {
		return
	}
	m, at, e := Parse(p)
	if !same(l, m) || at != 0 || e != api.OK {
		t.Errorf("Parse(%q): %v, %d, %d, want %v", string(p), m, at, e, l)
	}
	if again := Print(m); !slices.Equal(again, p) {
		t.Errorf("%q is printed as %q", string(p), string(again))
	}
}

// hold holds the parts of a snippet and their canonical text.
func hold(t *testing.T, s, canonical string, want ...Node) {
	t.Helper()
	holdParts(t, []rune(s), want...)
	holdPrint(t, want, []rune(canonical))
}

// holdSame is hold for a text that is canonical.
func holdSame(t *testing.T, s string, want ...Node) {
	t.Helper()
	hold(t, s, s, want...)
}

// form is what may follow ${ and a number or a name, with the part that it
// makes of a plain one.
type form struct {
	s, canonical string
	of           func(x Node) Node
}

// forms has what may follow both a number and a name.
func forms() []form {
	with := func(subs ...Node) func(x Node) Node {
		return func(x Node) Node {
			x.Subs = subs
			return x
		}
	}
	turn := func(pattern, format, options string) func(x Node) Node {
		return func(x Node) Node { return turned(x, pattern, format, options) }
	}
	return []form{
		{"}", "}", with()},
		{":}", "}", with()},
		{":a}", ":a}", with(text("a"))},
		{":$2}", ":${2}}", with(stop(2))},
		{":a$b1-${3:c}}", ":a${b1}-${3:c}}", with(text("a"), variable("b1"), text("-"), stop(3, text("c")))},
		{":${4|d|}}", ":${4|d|}}", with(choice(4, "d"))},
		{"///}", "///}", turn("", "", "")},
		{"/a/b/}", "/a/b/}", turn("a", "b", "")},
		{"/(a)\\/b/${1:/upcase}\\/x/ig}", "/(a)\\/b/${1:/upcase}\\/x/gi}", turn("(a)/b", "${1:/upcase}/x", "gi")},
	}
}

// chosen has what may follow a number alone.
func chosen() []form {
	of := func(choices ...string) func(x Node) Node {
		return func(x Node) Node { return choice(x.N, choices...) }
	}
	return []form{
		{"||}", "||}", of("")},
		{"|a|}", "|a|}", of("a")},
		{"|a,b\\,c,|}", "|a,b\\,c,|}", of("a", "b,c", "")},
	}
}

// P9.1

func TestKindsAreNumbered(t *testing.T) {
	for i, kind := range []int{Text, Stop, Choice, Var} {
		if kind != i+1 {
			t.Errorf("kind %d is %d", i+1, kind)
		}
	}
}

func TestEmptySnippet(t *testing.T) {
	holdParts(t, nil)
	holdParts(t, []rune{})
	holdPrint(t, nil, nil)
	holdPrint(t, []Node{}, nil)
}

func TestExample(t *testing.T) {
	hold(t, "a${1:b$2}", "a${1:b${2}}", text("a"), stop(1, text("b"), stop(2)))
}

func TestEachForm(t *testing.T) {
	hold(t, "$1", "${1}", stop(1))
	holdSame(t, "${1}", stop(1))
	holdSame(t, "${1:a}", stop(1, text("a")))
	holdSame(t, "${1/a/b/}", turned(stop(1), "a", "b", ""))
	holdSame(t, "${1|a,b|}", choice(1, "a", "b"))
	hold(t, "$ab", "${ab}", variable("ab"))
	holdSame(t, "${ab}", variable("ab"))
	holdSame(t, "${ab:c}", variable("ab", text("c")))
	holdSame(t, "${ab/c/d/}", turned(variable("ab"), "c", "d", ""))
	hold(t, "\\a", "a", text("a"))
	holdSame(t, "a", text("a"))
}

func TestNumbers(t *testing.T) {
	for n := range 100 {
		d := strconv.Itoa(n)
		spellings := []string{d}
		if n < 10 {
			spellings = append(spellings, "0"+d)
		}
		for _, s := range spellings {
			hold(t, "$"+s, "${"+d+"}", stop(n))
			hold(t, "$"+s+"a", "${"+d+"}a", stop(n), text("a"))
			hold(t, "$"+s+"$"+s, "${"+d+"}${"+d+"}", stop(n), stop(n))
			hold(t, "$"+s+"\\1", "${"+d+"}1", stop(n), text("1"))
			for _, f := range append(forms(), chosen()...) {
				hold(t, "${"+s+f.s, "${"+d+f.canonical, f.of(stop(n)))
			}
			for _, behind := range []string{"/", ":", "|", "{", "-", "_", "٠", "²", "a/b/c/", "|a|"} {
				hold(t, "$"+s+behind, "${"+d+"}"+behind, stop(n), text(behind))
			}
		}
		two := strconv.Itoa(100 + n)[1:]
		for third := range 10 {
			more := strconv.Itoa(third)
			hold(t, "$"+two+more, "${"+d+"}"+more, stop(n), text(more))
			hold(t, "$"+two+more+"0", "${"+d+"}"+more+"0", stop(n), text(more+"0"))
			for _, f := range append(forms(), chosen()...) {
				holdFault(t, "${"+two+more+f.s, 4)
			}
		}
	}
	hold(t, "$999", "${99}9", stop(99), text("9"))
	hold(t, "$000", "${0}0", stop(0), text("0"))
	hold(t, "$001", "${0}1", stop(0), text("1"))
	hold(t, "$12x}", "${12}x\\}", stop(12), text("x}"))
}

func TestNames(t *testing.T) {
	long := "a" + strings.Repeat("Z_9", 60)
	for _, name := range []string{"a", "z", "A", "Z", "_", "__", "_1", "a1", "a_b", "TM_FILENAME", "x0123456789", "m", "M", "azAZ_09", "g", "gi", "upcase", long} {
		hold(t, "$"+name, "${"+name+"}", variable(name))
		hold(t, "$"+name+"$"+name, "${"+name+"}${"+name+"}", variable(name), variable(name))
		hold(t, "$"+name+"\\b", "${"+name+"}b", variable(name), text("b"))
		for _, f := range forms() {
			hold(t, "${"+name+f.s, "${"+name+f.canonical, f.of(variable(name)))
		}
		for _, behind := range []string{"/", ":", "|", "{", "-", "@", "[", "`", "^", " ", "é", "Å", "٠", "²", "ª", "/b/c/", "|a|"} {
			hold(t, "$"+name+behind, "${"+name+"}"+behind, variable(name), text(behind))
		}
	}
}

// Each rune ahead of 256 behind a $, behind ${, and behind a digit and a letter.
func TestEachRuneBehindDollar(t *testing.T) {
	for r := rune(0); r < 256; r++ {
		s := string(r)
		digit := r >= 48 && r <= 57
		letter := r >= 65 && r <= 90 || r >= 97 && r <= 122 || r == 95
		switch {
		case digit:
			holdParts(t, []rune("$"+s), stop(int(r)-48))
			holdParts(t, []rune("${"+s+"}"), stop(int(r)-48))
			holdParts(t, []rune("$7"+s), stop(int(r)+22))
			holdParts(t, []rune("${7"+s+"}"), stop(int(r)+22))
			holdParts(t, []rune("$x"+s), variable("x"+s))
			holdParts(t, []rune("${x"+s+"}"), variable("x"+s))
		case letter:
			holdParts(t, []rune("$"+s), variable(s))
			holdParts(t, []rune("${"+s+"}"), variable(s))
			holdParts(t, []rune("$7"+s), stop(7), text(s))
			holdFault(t, "${7"+s+"}", 3)
			holdParts(t, []rune("$x"+s), variable("x"+s))
			holdParts(t, []rune("${x"+s+"}"), variable("x"+s))
		case r != '{' && r != '}' && r != '$' && r != '\\':
			holdFault(t, "$"+s, 1)
			holdFault(t, "${"+s+"}", 2)
			holdParts(t, []rune("$7"+s), stop(7), text(s))
			holdParts(t, []rune("$x"+s), variable("x"), text(s))
			if r != ':' && r != '/' {
				holdFault(t, "${x"+s+"}", 3)
			}
			if r != ':' && r != '/' && r != '|' {
				holdFault(t, "${7"+s+"}", 3)
			}
		}
	}
}

func TestPartsSideBySide(t *testing.T) {
	all := append(forms(), chosen()...)
	for _, f := range all {
		hold(t, "a${3"+f.s+"b", "a${3"+f.canonical+"b", text("a"), f.of(stop(3)), text("b"))
		for _, g := range all {
			hold(t, "${3"+f.s+"${4"+g.s, "${3"+f.canonical+"${4"+g.canonical, f.of(stop(3)), g.of(stop(4)))
			hold(t, "${3"+f.s+"$4${5"+g.s+"}", "${3"+f.canonical+"${4}${5"+g.canonical+"\\}", f.of(stop(3)), stop(4), g.of(stop(5)), text("}"))
		}
		for _, g := range forms() {
			hold(t, "${x"+g.s+"${3"+f.s+"$y", "${x"+g.canonical+"${3"+f.canonical+"${y}", g.of(variable("x")), f.of(stop(3)), variable("y"))
		}
	}
}

func TestPartsInParts(t *testing.T) {
	for _, f := range append(forms(), chosen()...) {
		inner := f.of(stop(8))
		hold(t, "${1:${8"+f.s+"}", "${1:${8"+f.canonical+"}", stop(1, inner))
		hold(t, "${x:a${8"+f.s+"b}c", "${x:a${8"+f.canonical+"b}c", variable("x", text("a"), inner, text("b")), text("c"))
		hold(t, "${1:${y:${8"+f.s+"$2}$z}", "${1:${y:${8"+f.canonical+"${2}}${z}}", stop(1, variable("y", inner, stop(2)), variable("z")))
	}
	hold(t, "${1:${2:}}", "${1:${2}}", stop(1, stop(2)))
	hold(t, "${1:${2:}$3}$4", "${1:${2}${3}}${4}", stop(1, stop(2), stop(3)), stop(4))
	hold(t, "${x:${y:$1}}", "${x:${y:${1}}}", variable("x", variable("y", stop(1))))
}

// Behind the : of a part, nothing but }, $ and \ has a meaning.
func TestSnippetsInsideParts(t *testing.T) {
	for _, s := range []string{":", "/", "|", "/a/b/g", "|a,b|", "{", "{a", "a:b", ",", "g", "1", " ", "+x", "?a:b", "/upcase", "\n"} {
		holdSame(t, "${1:"+s+"}", stop(1, text(s)))
		holdSame(t, "${a:"+s+"}"+s, variable("a", text(s)), text(s))
		hold(t, "${1:${b:"+s+"$22"+s+"}"+s+"}", "${1:${b:"+s+"${22}"+s+"}"+s+"}", stop(1, variable("b", text(s), stop(22), text(s)), text(s)))
	}
	hold(t, "${1:{a}}", "${1:{a}\\}", stop(1, text("{a")), text("}"))
	holdSame(t, "${1:{a\\}}", stop(1, text("{a}")))
}

func TestTexts(t *testing.T) {
	for _, s := range []string{"a", "{", ":", "/", "|", ",", "1", "_", "{1", "{a:b", "/a/b/gi", "|a,b|", " ", "\n", "\x00", "é", "\U0010ffff"} {
		holdSame(t, s, text(s))
		hold(t, "$1"+"\\"+s, "${1}"+s, stop(1), text(s))
	}
	hold(t, "}", "\\}", text("}"))
	hold(t, "a}}b", "a\\}\\}b", text("a}}b"))
	hold(t, "{1}", "{1\\}", text("{1}"))
	holdSame(t, "\\$1", text("$1"))
	hold(t, "\\${1}", "\\${1\\}", text("${1}"))
	hold(t, "\\$\\{1}", "\\${1\\}", text("${1}"))
	holdSame(t, "\\\\", text("\\"))
	hold(t, "\\\\$1", "\\\\${1}", text("\\"), stop(1))
	hold(t, "\\n\\t\\q", "ntq", text("ntq"))
	hold(t, "${x:}\\q", "${x}q", variable("x"), text("q"))
}

// A \ stands ahead of any rune, and the runes of several texts are one part.
func TestEachRuneInTexts(t *testing.T) {
	for r := rune(0); r < 256; r++ {
		s := string(r)
		canonical := s
		if s == "$" || s == "}" || s == "\\" {
			canonical = "\\" + s
		}
		hold(t, "\\"+s, canonical, text(s))
		hold(t, "a\\"+s+"b\\"+s, "a"+canonical+"b"+canonical, text("a"+s+"b"+s))
		hold(t, "$1\\"+s+"$2", "${1}"+canonical+"${2}", stop(1), text(s), stop(2))
		hold(t, "${x:\\"+s+"}", "${x:"+canonical+"}", variable("x", text(s)))
		hold(t, "${x:a\\"+s+"${y:\\"+s+"}}", "${x:a"+canonical+"${y:"+canonical+"}}", variable("x", text("a"+s), variable("y", text(s))))
		if s != "$" && s != "\\" {
			hold(t, s, canonical, text(s))
			hold(t, "-"+s+"-", "-"+canonical+"-", text("-"+s+"-"))
		}
		if s != "$" && s != "\\" && s != "}" {
			holdSame(t, "${x:"+s+"}", variable("x", text(s)))
		}
	}
}

func TestAdjacentTexts(t *testing.T) {
	hold(t, "a\\bc\\\\\\$d}e", "abc\\\\\\$d\\}e", text("abc\\$d}e"))
	hold(t, "a\\bc$1\\d\\ef", "abc${1}def", text("abc"), stop(1), text("def"))
	hold(t, "${1:a\\}b\\c}d\\e", "${1:a\\}bc}de", stop(1, text("a}bc")), text("de"))
	hold(t, "a${1:\\b}\\c", "a${1:b}c", text("a"), stop(1, text("b")), text("c"))
	// What is empty stands between texts all the same.
	hold(t, "a${1:}b${x:}c", "a${1}b${x}c", text("a"), stop(1), text("b"), variable("x"), text("c"))
	hold(t, "${1:a${2:}b}", "${1:a${2}b}", stop(1, text("a"), stop(2), text("b")))
}

func TestChoices(t *testing.T) {
	holdSame(t, "${1||}", choice(1, ""))
	holdSame(t, "${1|a|}", choice(1, "a"))
	holdSame(t, "${1|,|}", choice(1, "", ""))
	holdSame(t, "${1|,,|}", choice(1, "", "", ""))
	holdSame(t, "${1|a,|}", choice(1, "a", ""))
	holdSame(t, "${1|,a|}", choice(1, "", "a"))
	holdSame(t, "${1|a,,b|}", choice(1, "a", "", "b"))
	holdSame(t, "${1|ab,cd,ef|}", choice(1, "ab", "cd", "ef"))
	holdSame(t, "${1|a,a|}", choice(1, "a", "a"))
	holdSame(t, "${1|\\,|}", choice(1, ","))
	holdSame(t, "${1|\\||}", choice(1, "|"))
	holdSame(t, "${1|\\\\|}", choice(1, "\\"))
	holdSame(t, "${1|\\\\,\\,,\\||}", choice(1, "\\", ",", "|"))
	holdSame(t, "${1|a\\,b\\|c\\\\d|}", choice(1, "a,b|c\\d"))
	hold(t, "${1|\\a\\n,\\}|}", "${1|an,}|}", choice(1, "an", "}"))
	// The runes that have a meaning elsewhere.
	for _, s := range []string{"$", "{", "}", ":", "/", "$1", "${1}", "${1:a}", "${x", "}}", "/a/b/", "a}b", "g", "\n", " a "} {
		holdSame(t, "${2|"+s+"|}", choice(2, s))
		holdSame(t, "${2|x,"+s+",y|}", choice(2, "x", s, "y"))
	}
	for r := rune(0); r < 256; r++ {
		s := string(r)
		canonical := s
		if s == "," || s == "|" || s == "\\" {
			canonical = "\\" + s
		}
		hold(t, "${1|\\"+s+"|}", "${1|"+canonical+"|}", choice(1, s))
		hold(t, "${1|a\\"+s+"b,\\"+s+"|}", "${1|a"+canonical+"b,"+canonical+"|}", choice(1, "a"+s+"b", s))
		if s == canonical {
			holdSame(t, "${1|"+s+"|}", choice(1, s))
		}
	}
	many := slices.Repeat([]string{""}, 395)
	holdSame(t, "${1|"+strings.Repeat(",", 394)+"|}", choice(1, many...))
}

func TestTransforms(t *testing.T) {
	for _, x := range []struct{ ahead, pattern, format string }{
		// Each as it is written, and what the two stand for if that is another text.
		{"///", "", ""},
		{"/a//", "a", ""},
		{"//a/", "", "a"},
		{"/a/b/", "a", "b"},
		{"/\\//b/", "/", "b"},
		{"/a/\\//", "a", "/"},
		{"/\\/\\//\\/\\//", "//", "//"},
		{"/a\\/b/c\\/d/", "a/b", "c/d"},
		{"/\\\\/b/", "\\\\", "b"},
		{"/\\\\\\//b/", "\\\\/", "b"},
		{"/\\/\\\\/b/", "/\\\\", "b"},
		{"/a/\\\\/", "a", "\\\\"},
		{"/a/\\\\\\//", "a", "\\\\/"},
		{"/a/\\/\\\\/", "a", "/\\\\"},
		{"/\\d\\.\\$\\}/b/", "\\d\\.\\$\\}", "b"},
		{"/a/\\d\\n\\}\\:\\$\\,/", "a", "\\d\\n\\}\\:\\$\\,"},
		{"/[\\/]/b/", "[/]", "b"},
		{"/[^a\\/b]/b/", "[^a/b]", "b"},
		{"/^a$/b/", "^a$", "b"},
		{"/$:|,/b/", "$:|,", "b"},
		{"/a{2,3}/b/", "a{2,3}", "b"},
		{"/a|b:/b/", "a|b:", "b"},
		// In a format, what is in braces stands for itself.
		{"/a/$1${2}/", "a", "$1${2}"},
		{"/a/${1:/upcase}/", "a", "${1:/upcase}"},
		{"/a/${1:/upcase}\\/x/", "a", "${1:/upcase}/x"},
		{"/a/${1:+a/b}/", "a", "${1:+a/b}"},
		{"/a/${1:+a\\/b}/", "a", "${1:+a\\/b}"},
		{"/a/${1:+/}/", "a", "${1:+/}"},
		{"/a/${1:+//\\//}/", "a", "${1:+//\\//}"},
		{"/a/${1:+a\\}/b}/", "a", "${1:+a\\}/b}"},
		{"/a/${1:+\\\\}/", "a", "${1:+\\\\}"},
		{"/a/${1:+\\\\}\\//", "a", "${1:+\\\\}/"},
		{"/a/${1:?a:b/}:/", "a", "${1:?a:b/}:"},
		{"/a/${1:?\\:/:\\/}/", "a", "${1:?\\:/:\\/}"},
		{"/a/${1:+${}/", "a", "${1:+${}"},
		{"/a/${1:+$/{}/", "a", "${1:+$/{}"},
		{"/a/${1:+/}${2:-/}/", "a", "${1:+/}${2:-/}"},
		{"/a/${1:+/}\\/${2:-/}/", "a", "${1:+/}/${2:-/}"},
		{"/a/$1${2:+/}/", "a", "$1${2:+/}"},
		// Here there is no ${.
		{"/a/\\${:\\//", "a", "\\${:/"},
		{"/a/\\${\\/}/", "a", "\\${/}"},
		{"/a/{\\/}/", "a", "{/}"},
		{"/a/$1{\\/}/", "a", "$1{/}"},
		{"/a/\\\\\\${\\//", "a", "\\\\\\${/"},
		{"/a/}\\/,|:/", "a", "}/,|:"},
		// And here there is one.
		{"/a/\\\\${1:+/}/", "a", "\\\\${1:+/}"},
		{"/a/\\$${1:+/}/", "a", "\\$${1:+/}"},
		{"/a/\\/${1:+/}/", "a", "/${1:+/}"},
	} {
		for _, o := range []struct{ s, canonical string }{{"", ""}, {"g", "g"}, {"i", "i"}, {"gi", "gi"}, {"ig", "gi"}} {
			hold(t, "${1"+x.ahead+o.s+"}", "${1"+x.ahead+o.canonical+"}", turned(stop(1), x.pattern, x.format, o.s))
			hold(t, "${ab"+x.ahead+o.s+"}/g}", "${ab"+x.ahead+o.canonical+"}/g\\}", turned(variable("ab"), x.pattern, x.format, o.s), text("/g}"))
			hold(t, "${c:${1"+x.ahead+o.s+"}}", "${c:${1"+x.ahead+o.canonical+"}}", variable("c", turned(stop(1), x.pattern, x.format, o.s)))
		}
	}
}

// In a pattern, ${ has no meaning.
func TestDollarsInPatterns(t *testing.T) {
	holdSame(t, "${1/\\$\\{\\//b/}", turned(stop(1), "\\$\\{/", "b", ""))
	// The pattern ends at the /, so that its format has a } and a b.
	holdSame(t, "${1/[${]/}b/}", turned(stop(1), "[${]", "}b", ""))
	holdSame(t, "${1/[${\\/]/b/}", turned(stop(1), "[${/]", "b", ""))
	holdSame(t, "${1/[${\\/}]/b/}", turned(stop(1), "[${/}]", "b", ""))
	holdSame(t, "${1/[${]/${1:+[${]/}/}", turned(stop(1), "[${]", "${1:+[${]/}", ""))
}

// Each rune behind a \, where the pattern or the format permits it there.
func TestEachRuneInTransforms(t *testing.T) {
	for r := rune(0); r < 256; r++ {
		s := string(r)
		decoded := "\\" + s
		if s == "/" {
			decoded = s
		}
		if transform.Check(transform.Transform{Pattern: []rune(decoded)}) == api.OK {
			holdSame(t, "${1/a\\"+s+"b/x/}", turned(stop(1), "a"+decoded+"b", "x", ""))
		}
		holdSame(t, "${1/a/x\\"+s+"y/}", turned(stop(1), "a", "x"+decoded+"y", ""))
		holdSame(t, "${1/a/${1:-x\\"+s+"y}/}", turned(stop(1), "a", "${1:-x\\"+s+"y}", ""))
		if s != "}" && s != "\\" {
			holdSame(t, "${1/a/${1:-x"+s+"y}/}", turned(stop(1), "a", "${1:-x"+s+"y}", ""))
		}
		if s != "/" && s != "\\" && s != "$" {
			holdSame(t, "${1/a/x"+s+"y/}", turned(stop(1), "a", "x"+s+"y", ""))
		}
		if s != "/" && transform.Check(transform.Transform{Pattern: []rune(s)}) == api.OK {
			holdSame(t, "${1/"+s+"/y/}", turned(stop(1), s, "y", ""))
		}
	}
}

// nested returns parts in one another, so many deep, with one inside them all.
func nested(depth int, ahead, inside string) string {
	return strings.Repeat(ahead, depth) + inside + strings.Repeat("}", depth)
}

func TestDepth(t *testing.T) {
	for _, ahead := range []string{"${1:", "${ab:"} {
		x := stop(1)
		if ahead == "${ab:" {
			x = variable("ab")
		}
		l := []Node{text("x$y")}
		for range api.MaxDeep + 1 {
			x.Subs = l
			l = []Node{x}
		}
		// Nine parts in one another; a $ behind a \ is none.
		s := nested(9, ahead, "x\\$y")
		holdSame(t, s, l...)
		holdSame(t, s+s, l[0], l[0])
		for n := range api.MaxDeep + 1 {
			for _, f := range append(forms(), chosen()...) {
				if n == api.MaxDeep && f.s[0] == ':' && strings.Contains(f.s, "$") {
					continue
				}
				s := nested(n, ahead, "$5${2"+f.s)
				if l, at, e := Parse([]rune(s)); e != api.OK {
					t.Errorf("Parse(%q): %v, %d, %d", s, l, at, e)
				}
			}
		}
	}
	// What has ended does not count, and choices and transforms are not Subs.
	side := strings.Repeat("${1:}${2:a}${3|a|}${4/a/b/}", 10)
	holdParts(t, []rune(nested(8, "${1:", "${2|$,${1:a}|}")), nest(8, choice(2, "$", "${1:a}"))...)
	holdParts(t, []rune(nested(8, "${1:", "${2/$/$1${2:+$}/}")), nest(8, turned(stop(2), "$", "$1${2:+$}", ""))...)
	if l, at, e := Parse([]rune(side + nested(9, "${1:", "a"))); e != api.OK || len(l) != 41 {
		t.Errorf("Parse: %v, %d, %d", l, at, e)
	}
	holdParts(t, []rune(nested(8, "${1:", "${2:}${3:}${4:}$5")), nest(8, stop(2), stop(3), stop(4), stop(5))...)
}

// nest returns Stops 1 in one another, so many, with these parts inside.
func nest(depth int, l ...Node) []Node {
	for range depth {
		l = []Node{stop(1, l...)}
	}
	return l
}

func TestDeepFaults(t *testing.T) {
	for _, ahead := range []string{"${1:", "${ab:"} {
		n := len(ahead)
		for _, inside := range []string{"$1", "$a", "${1}", "${a}", "$", "${", "$$", "$-", "${1:$2}", "${1|a|}", "${1/(/b/}", "$}"} {
			for _, before := range []string{"", "a", "\\$", "ab{"} {
				holdDeep(t, nested(9, ahead, before+inside), 9*n+len(before))
				holdDeep(t, nested(10, ahead, before+inside), 9*n)
				holdDeep(t, nested(30, ahead, before+inside), 9*n)
				// What is cut off behind the $.
				holdDeep(t, strings.Repeat(ahead, 9)+before+inside, 9*n+len(before))
				holdDeep(t, "x$2"+nested(9, ahead, before+inside), 3+9*n+len(before))
				holdDeep(t, nested(9, ahead, "a")+nested(9, ahead, before+inside), 18*n+10+len(before))
			}
		}
	}
	// One that has ended is not gone back to.
	holdParts(t, []rune(nested(7, "${1:", "${2:${3:}}$4")), nest(7, stop(2, stop(3)), stop(4))...)
	holdDeep(t, strings.Repeat("${1:", 8)+"${2:}${3:$4}", 41)
	holdDeep(t, strings.Repeat("${1:", 9)+"}${3:$4}", 41)
}

func TestLengths(t *testing.T) {
	for _, s := range []string{"a", "\\a", "$1", "${1}", "${1:}", "${x|", "${1|a|}", "${1/a/b/}", "\\", "$", "}"} {
		n := api.MaxSnip - len(s)
		l, at, e := Parse([]rune(strings.Repeat("a", n) + s))
		m, place, f := Parse([]rune("a" + s))
		if f != api.OK {
			place += n - 1
		}
		if e != f || at != place || len(l) != len(m) {
			t.Errorf("Parse(%q) behind %d runes: %v, %d, %d", s, n, l, at, e)
		}
		holdError(t, []rune(strings.Repeat("a", n+1)+s), 0, api.ErrFull)
		holdError(t, []rune(s+strings.Repeat("a", n+1)), 0, api.ErrFull)
		holdError(t, []rune(s+strings.Repeat("a", 5000)), 0, api.ErrFull)
	}
	full := slices.Repeat([]rune{math.MaxInt32}, api.MaxSnip)
	holdParts(t, full, Node{Kind: Text, Name: full})
	holdError(t, append(full, 'a'), 0, api.ErrFull)
	holdError(t, make([]rune, 401), 0, api.ErrFull)
	holdError(t, slices.Repeat([]rune{-1}, 401), 0, api.ErrFull)
	holdError(t, []rune(strings.Repeat("$", 401)), 0, api.ErrFull)
	holdError(t, []rune(strings.Repeat("${1:", 101)), 0, api.ErrFull)
	holdDeep(t, strings.Repeat("${1:", 100), 36)
}

// All runes that are not below 0 are as any other one.
func TestOddRunes(t *testing.T) {
	for _, r := range []rune{0, 127, 128, 0xd7ff, 55296, 57343, 0xe000, 0xfffd, 0xffff, 1114111, 1114112, 1 << 24, '$' + 1<<24, '}' + 1<<24, '\\' + 1<<24, '1' + 1<<16, 'a' + 1<<16, math.MaxInt32 - 1, math.MaxInt32} {
		odd := []rune{r}
		holdParts(t, odd, Node{Kind: Text, Name: odd})
		holdParts(t, []rune{'\\', r}, Node{Kind: Text, Name: odd})
		holdPrint(t, []Node{{Kind: Text, Name: odd}}, odd)
		holdParts(t, []rune{'$', '1', r}, stop(1), Node{Kind: Text, Name: odd})
		holdParts(t, []rune{'$', 'a', r}, variable("a"), Node{Kind: Text, Name: odd})
		holdError(t, []rune{'$', r, '}'}, 1, api.ErrForm)
		holdError(t, []rune{'$', '{', r, '}'}, 2, api.ErrForm)
		holdError(t, []rune{'$', '{', '1', r, '}'}, 3, api.ErrForm)
		holdError(t, []rune{'$', '{', 'a', r, '}'}, 3, api.ErrForm)
		inside := slices.Concat([]rune("${1:"), odd, []rune("}"))
		holdParts(t, inside, stop(1, Node{Kind: Text, Name: odd}))
		two := slices.Concat([]rune("${1|"), odd, []rune(",\\"), odd, []rune("|}"))
		holdParts(t, two, Node{Kind: Choice, N: 1, Choices: [][]rune{odd, odd}})
		holdError(t, slices.Concat([]rune("${1|a|"), odd, []rune("}")), 6, api.ErrForm)
		turn := slices.Concat([]rune("${1/"), odd, []rune("/"), odd, odd, []rune("${1:+"), odd, []rune("}/}"))
		x := turned(stop(1), "", "", "")
		x.T.Pattern = odd
		x.T.Format = slices.Concat(odd, odd, []rune("${1:+"), odd, []rune("}"))
		holdParts(t, turn, x)
		holdPrint(t, []Node{x}, turn)
		holdError(t, slices.Concat([]rune("${1/a/b/"), odd, []rune("}")), 8, api.ErrForm)
		holdError(t, slices.Concat([]rune("${1/a/b/g"), odd, []rune("}")), 9, api.ErrForm)
	}
}
