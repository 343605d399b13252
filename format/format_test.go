package format

import (
	"math"
	"slices"
	"strings"
	"testing"

	"stylus/api"
)

// sample is a text with the items that it stands for.
type sample struct {
	s string
	l []Item
}

func text(s string) Item {
	return Item{Kind: Text, Yes: []rune(s)}
}

// item is one of a group without texts.
func item(kind, n int) Item {
	return Item{Kind: kind, N: n}
}

func yes(n int, s string) Item {
	return Item{Kind: If, N: n, Yes: []rune(s)}
}

func both(n int, s, other string) Item {
	return Item{Kind: Both, N: n, Yes: []rune(s), No: []rune(other)}
}

func no(n int, s string) Item {
	return Item{Kind: Else, N: n, No: []rune(s)}
}

// same compares all fields; a nil list and an empty one are the same.
func same(l, m []Item) bool {
	return slices.EqualFunc(l, m, func(x, y Item) bool {
		return x.Kind == y.Kind && x.N == y.N && slices.Equal(x.Yes, y.Yes) && slices.Equal(x.No, y.No)
	})
}

// holdRunes holds that a format is parsed to these items.
func holdRunes(t *testing.T, s []rune, want ...Item) {
	t.Helper()
	l, at, e := Parse(s)
	if !same(l, want) || at != 0 || e != api.OK {
		t.Errorf("Parse(%q): %v, %d, %d, want %v", string(s), l, at, e, want)
	}
}

func hold(t *testing.T, s string, want ...Item) {
	t.Helper()
	holdRunes(t, []rune(s), want...)
}

// forms has what may follow ${ and digits, with the item of the group 0 that it
// makes.
func forms() []sample {
	return []sample{
		{"}", []Item{item(Plain, 0)}},
		{":/upcase}", []Item{item(Up, 0)}},
		{":/downcase}", []Item{item(Down, 0)}},
		{":/capitalize}", []Item{item(Capital, 0)}},
		{":+a}", []Item{yes(0, "a")}},
		{":?a:b}", []Item{both(0, "a", "b")}},
		{":-a}", []Item{no(0, "a")}},
		{":a}", []Item{no(0, "a")}},
		// Texts that are empty.
		{":+}", []Item{yes(0, "")}},
		{":?:}", []Item{both(0, "", "")}},
		{":?a:}", []Item{both(0, "a", "")}},
		{":?:b}", []Item{both(0, "", "b")}},
		{":-}", []Item{no(0, "")}},
		{":}", []Item{no(0, "")}},
	}
}

// ofGroup returns the item of a form, of this group.
func ofGroup(n int, form sample) Item {
	x := form.l[0]
	x.N = n
	return x
}

// P7.1

func TestEachForm(t *testing.T) {
	hold(t, "$1", item(Plain, 1))
	hold(t, "${1}", item(Plain, 1))
	hold(t, "${1:/upcase}", item(Up, 1))
	hold(t, "${1:/downcase}", item(Down, 1))
	hold(t, "${1:/capitalize}", item(Capital, 1))
	hold(t, "${1:+ab}", yes(1, "ab"))
	hold(t, "${1:?ab:cd}", both(1, "ab", "cd"))
	hold(t, "${1:-ab}", no(1, "ab"))
	hold(t, "${1:ab}", no(1, "ab"))
	hold(t, "ab", text("ab"))
	hold(t, "\\$", text("$"))
}

func TestKindsAreNumbered(t *testing.T) {
	for i, kind := range []int{Text, Plain, Up, Down, Capital, If, Both, Else} {
		if kind != i+1 {
			t.Errorf("kind %d is %d", i+1, kind)
		}
	}
}

func TestEmptyFormat(t *testing.T) {
	holdRunes(t, nil)
	holdRunes(t, []rune{})
}

func TestItemsSideBySide(t *testing.T) {
	hold(t, "a${1:/upcase}${2:+x}", text("a"), item(Up, 1), yes(2, "x"))
	for _, f := range forms() {
		hold(t, "a${3"+f.s+"b", text("a"), ofGroup(3, f), text("b"))
		for _, g := range forms() {
			hold(t, "${3"+f.s+"${4"+g.s, ofGroup(3, f), ofGroup(4, g))
			hold(t, "${3"+f.s+"$4${5"+g.s+"}", ofGroup(3, f), item(Plain, 4), ofGroup(5, g), text("}"))
		}
	}
}

func TestOneDigit(t *testing.T) {
	for n := range 10 {
		d := string(rune('0' + n))
		hold(t, "$"+d, item(Plain, n))
		hold(t, "$"+d+"a", item(Plain, n), text("a"))
		hold(t, "$"+d+"$"+d, item(Plain, n), item(Plain, n))
		for _, f := range forms() {
			hold(t, "${"+d+f.s, ofGroup(n, f))
		}
		for _, behind := range []string{"/", ":", "}", "{", "-", "٠", "²"} {
			hold(t, "$"+d+behind, item(Plain, n), text(behind))
		}
		// A digit behind a \ is none of the group's.
		hold(t, "$"+d+"\\"+d, item(Plain, n), text(d))
	}
}

func TestTwoDigits(t *testing.T) {
	for n := range 10 {
		d := "0" + string(rune('0'+n))
		hold(t, "$"+d, item(Plain, n))
		hold(t, "$"+d+"a", item(Plain, n), text("a"))
		hold(t, "$"+d+"$"+d, item(Plain, n), item(Plain, n))
		for _, f := range forms() {
			hold(t, "${"+d+f.s, ofGroup(n, f))
		}
	}
}

func TestDigitsBehindTwoDigits(t *testing.T) {
	for n := range 10 {
		for _, more := range []string{"0", "9", "10", "00", "123"} {
			d := "0" + string(rune('0'+n)) + more
			hold(t, "$"+d, item(Plain, n), text(more))
			for _, f := range forms() {
				holdFault(t, "${"+d+f.s, 4)
			}
		}
	}
}

func TestNumbersAboveNine(t *testing.T) {
	for n := 10; n < 100; n++ {
		d := string([]rune{'0' + rune(n/10), '0' + rune(n%10)})
		for _, more := range []string{"", "0", "9", "a", "$1", "$", "}"} {
			holdFault(t, "$"+d+more, 1)
			holdFault(t, "ab$1$"+d+more, 5)
			holdFault(t, "${"+d+more, 2)
		}
		for _, f := range forms() {
			holdFault(t, "${"+d+f.s, 2)
			holdFault(t, "x${1"+f.s+"${"+d+f.s, 5+len(f.s)+1)
		}
	}
}

func TestCases(t *testing.T) {
	for word, kind := range map[string]int{"upcase": Up, "downcase": Down, "capitalize": Capital} {
		hold(t, "${1:/"+word+"}", item(kind, 1))
		for i := range word {
			holdFault(t, "${1:/"+word[:i]+"}", 5+i)
			holdFault(t, "${1:/"+word[:i], 5+i)
			holdFault(t, "${1:/"+word[:i]+"\\"+word[i:]+"}", 5+i)
			holdFault(t, "${1:/"+word[:i]+"X"+word[i:]+"}", 5+i)
			holdFault(t, "${1:/"+word[:i]+strings.ToUpper(word[i:i+1])+word[i+1:]+"}", 5+i)
		}
		for _, more := range []string{"", "s", "e", "}", ":", "/", " ", "\\"} {
			if more != "}" {
				holdFault(t, "${1:/"+word+more, 5+len(word))
			}
			holdFault(t, "${1:/"+word+"X"+more+"}", 5+len(word))
		}
		// A word stands only behind a /.
		hold(t, "${1:"+word+"}", no(1, word))
		hold(t, "${1:-/"+word+"}", no(1, "/"+word))
		hold(t, "${1:\\/"+word+"}", no(1, "/"+word))
	}
	for _, s := range []string{"upcase", "downcase", "capitalize"} {
		for _, other := range []string{"upcase", "downcase", "capitalize"} {
			if s != other {
				holdFault(t, "${1:/"+s[:1]+other[1:]+"}", 6)
			}
		}
	}
}

// someRunes has all of ASCII, and runes at ends of what is valid and beyond them.
func someRunes() []rune {
	l := []rune{128, 0xB2, 0xE9, 0x301, 0x660, 0x20AC, 55295, 55296, 57343, 57344, 0xFFFD, 0xFFFF, 65536, 1114111, 1114112, 1 << 24, math.MaxInt32 - 1, math.MaxInt32}
	for r := range rune(128) {
		l = append(l, r)
	}
	return l
}

func TestEachRuneAsText(t *testing.T) {
	for _, r := range someRunes() {
		if r == '$' || r == '\\' {
			continue
		}
		want := Item{Kind: Text, Yes: []rune{r}}
		holdRunes(t, []rune{r}, want)
		if r < '0' || r > '9' {
			holdRunes(t, []rune{'$', '1', r, '$', '2'}, item(Plain, 1), want, item(Plain, 2))
		}
		holdRunes(t, []rune{r, r}, Item{Kind: Text, Yes: []rune{r, r}})
	}
}

// escapedRune is what a \ and a rune stand for.
func escapedRune(r rune) rune {
	if r == 'n' {
		return 10
	}
	return r
}

func TestEachRuneBehindBackslash(t *testing.T) {
	for _, r := range someRunes() {
		want := []rune{escapedRune(r)}
		holdRunes(t, []rune{'\\', r}, Item{Kind: Text, Yes: want})
		holdRunes(t, []rune{'$', '1', '\\', r, '$', '2'}, item(Plain, 1), Item{Kind: Text, Yes: want}, item(Plain, 2))
		holdRunes(t, []rune{'x', '\\', r, 'y'}, Item{Kind: Text, Yes: []rune{'x', want[0], 'y'}})
		for _, f := range textForms() {
			holdRunes(t, slices.Concat([]rune(f.ahead), []rune{'\\', r}, []rune(f.behind)), f.item(want))
			holdRunes(t, slices.Concat([]rune(f.ahead), []rune{'\\', r, '\\', r, 'x'}, []rune(f.behind)), f.item([]rune{want[0], want[0], 'x'}))
		}
	}
}

// textForm is a form with a text, which any rune ends but end.
type textForm struct {
	ahead, behind string
	end           rune
	item          func(s []rune) Item
}

func textForms() []textForm {
	return []textForm{
		{"${1:+", "}", '}', func(s []rune) Item { return Item{Kind: If, N: 1, Yes: s} }},
		{"${1:?", ":b}", ':', func(s []rune) Item { return Item{Kind: Both, N: 1, Yes: s, No: []rune("b")} }},
		{"${1:?a:", "}", '}', func(s []rune) Item { return Item{Kind: Both, N: 1, Yes: []rune("a"), No: s} }},
		{"${1:-", "}", '}', func(s []rune) Item { return Item{Kind: Else, N: 1, No: s} }},
		{"${1:", "}", '}', func(s []rune) Item { return Item{Kind: Else, N: 1, No: s} }},
	}
}

// startsOther reports whether a rune right behind the : begins a form that is
// not the last one of textForms.
func (f textForm) startsOther(r rune) bool {
	return f.ahead == "${1:" && strings.ContainsRune("/+?-", r)
}

func TestEachRuneInTexts(t *testing.T) {
	for _, r := range someRunes() {
		for _, f := range textForms() {
			if r == f.end || r == '\\' {
				continue
			}
			holdRunes(t, slices.Concat([]rune(f.ahead), []rune{'a', r, r, 'b', r}, []rune(f.behind)), f.item([]rune{'a', r, r, 'b', r}))
			if !f.startsOther(r) {
				holdRunes(t, slices.Concat([]rune(f.ahead), []rune{r}, []rune(f.behind)), f.item([]rune{r}))
			}
		}
	}
}

func TestTexts(t *testing.T) {
	for _, c := range []struct{ s, want string }{
		{"", ""}, {"a", "a"}, {"ab", "ab"}, {"a b", "a b"},
		{"$", "$"}, {"{", "{"}, {"${", "${"}, {"$1", "$1"}, {"${1", "${1"}, {"$$", "$$"}, {"{{", "{{"}, {"${2\\:+a", "${2:+a"},
		{"\\n", "\n"}, {"\\\\n", "\\n"}, {"\\\\\\n", "\\\n"}, {"n", "n"}, {"\n", "\n"}, {"\\\n", "\n"}, {"\\N", "N"}, {"\\t", "t"}, {"\\nn\\n", "\nn\n"},
		{"\\}", "}"}, {"\\}\\}", "}}"}, {"a\\}b", "a}b"}, {"\\:", ":"}, {"\\:\\:", "::"}, {"a\\:b", "a:b"}, {"\\$", "$"}, {"\\\\", "\\"}, {"\\\\\\}", "\\}"}, {"\\\\\\:", "\\:"}, {"\\{", "{"},
		{"\\/", "/"}, {"\\+", "+"}, {"\\?", "?"}, {"\\-", "-"}, {"\\é\\ \\0", "é 0"}, {"a/+?-", "a/+?-"}, {"é€", "é€"},
	} {
		for _, f := range textForms() {
			hold(t, f.ahead+c.s+f.behind, f.item([]rune(c.want)))
			hold(t, "x"+f.ahead+c.s+f.behind+f.ahead+c.s+f.behind+"}", text("x"), f.item([]rune(c.want)), f.item([]rune(c.want)), text("}"))
		}
	}
}

func TestEndsOfTexts(t *testing.T) {
	// The } in the first text of a Both, and the : in the others.
	hold(t, "${1:?}:}", both(1, "}", ""))
	hold(t, "${1:?a}b:c}", both(1, "a}b", "c"))
	hold(t, "${1:?}}:}}", both(1, "}}", ""), text("}"))
	hold(t, "${1:?\\}:\\}}", both(1, "}", "}"))
	hold(t, "${1:?a:b:c}", both(1, "a", "b:c"))
	hold(t, "${1:?::}", both(1, "", ":"))
	hold(t, "${1:?:::}", both(1, "", "::"))
	hold(t, "${1:?\\::\\:}", both(1, ":", ":"))
	hold(t, "${1:?a:b\\:c}", both(1, "a", "b:c"))
	hold(t, "${1:+:}", yes(1, ":"))
	hold(t, "${1:+a:b}", yes(1, "a:b"))
	hold(t, "${1::}", no(1, ":"))
	hold(t, "${1:::}", no(1, "::"))
	hold(t, "${1:-:}", no(1, ":"))
	hold(t, "${1:a:b}", no(1, "a:b"))
	// The first } ends the others.
	hold(t, "${1:+a}b}", yes(1, "a"), text("b}"))
	hold(t, "${1:-a}b}", no(1, "a"), text("b}"))
	hold(t, "${1:a}b}", no(1, "a"), text("b}"))
	hold(t, "${1:}}", no(1, ""), text("}"))
	hold(t, "${1:+${2}}", yes(1, "${2"), text("}"))
	hold(t, "${1:${2:+a}}", no(1, "${2:+a"), text("}"))
	hold(t, "${1:?${2}:$3}", both(1, "${2}", "$3"))
	hold(t, "${1:?a:${2}}", both(1, "a", "${2"), text("}"))
}

func TestFirstRuneOfElse(t *testing.T) {
	for _, r := range someRunes() {
		holdRunes(t, []rune{'$', '{', '1', ':', '\\', r, '}'}, Item{Kind: Else, N: 1, No: []rune{escapedRune(r)}})
		holdRunes(t, []rune{'$', '{', '1', ':', '-', '\\', r, '}'}, Item{Kind: Else, N: 1, No: []rune{escapedRune(r)}})
		if r == '\\' || r == '}' {
			continue
		}
		holdRunes(t, []rune{'$', '{', '1', ':', '-', r, '}'}, Item{Kind: Else, N: 1, No: []rune{r}})
		if !strings.ContainsRune("/+?-", r) {
			holdRunes(t, []rune{'$', '{', '1', ':', r, '}'}, Item{Kind: Else, N: 1, No: []rune{r}})
		}
	}
	// These begin another form each.
	hold(t, "${1:+a}", yes(1, "a"))
	hold(t, "${1:-a}", no(1, "a"))
	hold(t, "${1:?a:}", both(1, "a", ""))
	hold(t, "${1:/upcase}", item(Up, 1))
	holdFault(t, "${1:/a}", 5)
	holdFault(t, "${1:/}", 5)
	holdFault(t, "${1:?a}", 7)
	// They do so only right behind the :.
	hold(t, "${1: /a}", no(1, " /a"))
	hold(t, "${1:a-+?/}", no(1, "a-+?/"))
	hold(t, "${1:-/upcase}", no(1, "/upcase"))
	hold(t, "${1:-+a}", no(1, "+a"))
	hold(t, "${1:-?a:b}", no(1, "?a:b"))
	hold(t, "${1:--a}", no(1, "-a"))
	hold(t, "${1:---}", no(1, "--"))
	hold(t, "${1:++a}", yes(1, "+a"))
	hold(t, "${1:+-a}", yes(1, "-a"))
	hold(t, "${1:+/upcase}", yes(1, "/upcase"))
	hold(t, "${1:+?a:b}", yes(1, "?a:b"))
	hold(t, "${1:??:?}", both(1, "?", "?"))
	hold(t, "${1:?+a:-b}", both(1, "+a", "-b"))
	hold(t, "${1:?/upcase:/downcase}", both(1, "/upcase", "/downcase"))
}

func TestTextOutsideOfItems(t *testing.T) {
	hold(t, "}", text("}"))
	hold(t, "a}b}", text("a}b}"))
	hold(t, "{1}", text("{1}"))
	hold(t, "$1}", item(Plain, 1), text("}"))
	hold(t, "${1}}", item(Plain, 1), text("}"))
	hold(t, "$1:/upcase}", item(Plain, 1), text(":/upcase}"))
	hold(t, "\\$1", text("$1"))
	hold(t, "\\${1}", text("${1}"))
	hold(t, "\\\\$1", text("\\"), item(Plain, 1))
	hold(t, "\\\\\\$1", text("\\$1"))
	hold(t, "\\n\\\\n\n", text("\n\\n\n"))
	hold(t, "1:+?-/", text("1:+?-/"))
}

// Adjacent runes of Text form one item, whether they have a \ or not.
func TestTextIsOneItem(t *testing.T) {
	hold(t, "ab\\nc$1", text("ab\nc"), item(Plain, 1))
	hold(t, "\\a\\b", text("ab"))
	hold(t, "a\\b", text("ab"))
	hold(t, "\\ab", text("ab"))
	hold(t, "\\$\\$", text("$$"))
	hold(t, "a\\$b}c\\}", text("a$b}c}"))
	hold(t, "$1a\\b$2c$3\\d", item(Plain, 1), text("ab"), item(Plain, 2), text("c"), item(Plain, 3), text("d"))
	hold(t, "a${1:b}c", text("a"), no(1, "b"), text("c"))
}

func TestNumberOfRunes(t *testing.T) {
	for _, n := range []int{1, 2, api.MaxSnip - 1, api.MaxSnip} {
		hold(t, strings.Repeat("a", n), text(strings.Repeat("a", n)))
		hold(t, strings.Repeat("é", n), text(strings.Repeat("é", n)))
		holdRunes(t, make([]rune, n), Item{Kind: Text, Yes: make([]rune, n)})
		hold(t, strings.Repeat("\\n", n/2), slices.Repeat([]Item{text(strings.Repeat("\n", n/2))}, min(1, n/2))...)
		hold(t, strings.Repeat("$1", n/2), slices.Repeat([]Item{item(Plain, 1)}, n/2)...)
	}
	for _, n := range []int{api.MaxSnip - 1, api.MaxSnip} {
		for _, f := range textForms() {
			s := strings.Repeat("a", n-len(f.ahead+f.behind))
			hold(t, f.ahead+s+f.behind, f.item([]rune(s)))
		}
		for _, f := range forms() {
			s := strings.Repeat("a", n-len("${1"+f.s))
			hold(t, s+"${1"+f.s, text(s), ofGroup(1, f))
		}
	}
	for _, n := range []int{api.MaxSnip + 1, api.MaxSnip + 2, 2 * api.MaxSnip, 1 << 16, 1 << 20} {
		for _, r := range []rune{'a', 0, '}', '{', '1', math.MaxInt32} {
			holdFull(t, slices.Repeat([]rune{r}, n))
		}
	}
	for _, f := range forms() {
		holdFull(t, []rune("${1"+f.s+strings.Repeat("a", api.MaxSnip-len(f.s)-2)))
	}
}

// P7.1, P0: memory

func TestArgumentStaysAndIsNotKept(t *testing.T) {
	s := []rune("ab$1${2:/upcase}${3:+c\\d}${4:?e:f}${5:g}\\n")
	given := slices.Clone(s)
	l, _, _ := Parse(s[:len(s):len(s)])
	if !slices.Equal(s, given) {
		t.Errorf("the argument became %q", string(s))
	}
	m, _, _ := Parse(given)
	for i := range s {
		s[i] = 'z'
	}
	if !same(l, m) {
		t.Errorf("%v became %v", m, l)
	}
}

func TestRunesBehindTheArgumentDoNotCount(t *testing.T) {
	s := []rune("a$01${2:/upcase}${3:?e:f}\\n$1${5:g}")
	for i := range s {
		l, at, e := Parse(s[:i])
		m, place, errno := Parse([]rune(string(s[:i])))
		if !same(l, m) || at != place || e != errno {
			t.Errorf("Parse(%q) as a part: %v, %d, %d, want %v, %d, %d", string(s[:i]), l, at, e, m, place, errno)
		}
	}
}

// spoil overwrites a text, also beyond its end.
func spoil(s []rune) {
	s = s[:cap(s)]
	for i := range s {
		s[i] = -7
	}
}

func TestResultsShareNothing(t *testing.T) {
	s := []rune("ab${1:?c:d}ef${1:?c:d}${1:+g}${1:h}ab")
	want, _, _ := Parse(s)
	for i := range want {
		l, _, _ := Parse(s)
		yes, no := l[i].Yes, l[i].No
		spoil(yes)
		if !slices.Equal(no, want[i].No) {
			t.Errorf("No of item %d became %q with Yes", i, string(no))
		}
		spoil(no)
		l[i] = want[i]
		if !same(l, want) {
			t.Errorf("%v became %v with item %d", want, l, i)
		}
		holdRunes(t, s, want...)
	}
}
