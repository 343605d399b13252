package transform

import (
	"regexp"
	"slices"
	"strconv"
	"strings"
	"testing"

	"stylus/api"
	"stylus/pattern"
	"stylus/pike"
)

// words applies a transform as the chapter's words say it, from a place up to
// the end of the text. The texts are those of ASCII.
type words struct {
	find func(from int) ([]api.Span, bool)
	fill func(group func(n int) string) string
	text string
	all  bool
}

func (w words) from(place int) string {
	l, is := w.find(place)
	if !is {
		return w.text[place:]
	}
	ahead, behind := w.text[place:l[0].From], w.text[l[0].To:]
	filled := w.fill(func(n int) string {
		if l[n].From < 0 {
			return ""
		}
		return w.text[l[n].From:l[n].To]
	})
	switch {
	case w.all && l[0].From < l[0].To:
		behind = w.from(l[0].To)
	case w.all && behind != "":
		behind = behind[:1] + w.from(l[0].To+1)
	}
	return ahead + filled + behind
}

// piked finds what pike finds.
func piked(t *testing.T, p, s string, fold bool) func(from int) ([]api.Span, bool) {
	n, _, _, e := pattern.Parse([]rune(p))
	l, f := pike.Compile(n)
	if e != api.OK || f != api.OK {
		t.Fatalf("pattern %q: %d, %d", p, e, f)
	}
	text := []rune(s)
	return func(from int) ([]api.Span, bool) {
		return pike.Run(l, text, from, fold)
	}
}

// searcher finds what the library of the language finds. It has an expression
// for each place, since a search from there on must see the whole text.
type searcher []*regexp.Regexp

func newSearcher(p string, longest int, fold bool) searcher {
	var l searcher
	for place := range longest + 1 {
		x := "^(?s:.{" + strconv.Itoa(place) + "}.*?)(" + p + ")"
		if fold {
			x = "(?i)" + x
		}
		l = append(l, regexp.MustCompile(x))
	}
	return l
}

func (l searcher) in(s string) func(from int) ([]api.Span, bool) {
	return func(from int) ([]api.Span, bool) {
		m := l[from].FindStringSubmatchIndex(s)
		if m == nil {
			return nil, false
		}
		groups := slices.Repeat([]api.Span{{From: -1, To: -1}}, 10)
		for i := 2; i < len(m); i += 2 {
			groups[i/2-1] = api.Span{From: m[i], To: m[i+1]}
		}
		return groups, true
	}
}

// lot draws the same numbers in each run of the tests.
type lot struct{ n uint64 }

func (l *lot) below(n int) int {
	l.n = l.n*6364136223846793005 + 1442695040888963407
	return int((l.n >> 33) % uint64(n))
}

// among draws one of several texts.
func (l *lot) among(all ...string) string {
	return all[l.below(len(all))]
}

func (l *lot) text(runes string, longest int) string {
	var s strings.Builder
	for range l.below(longest + 1) {
		s.WriteByte(runes[l.below(len(runes))])
	}
	return s.String()
}

// part draws an item of a format, and what fills it.
func (l *lot) part() (string, func(group func(n int) string) string) {
	n := l.below(5)
	if l.below(4) == 0 {
		n = l.below(10)
	}
	if l.below(4) == 0 {
		return "x", func(func(n int) string) string { return "x" }
	}
	forms := strings.Split("} :/upcase} :/downcase} :/capitalize} :+y} :?y:n} :n} :-n}", " ")
	form := l.below(len(forms))
	return "${" + strconv.Itoa(n) + forms[form], func(group func(n int) string) string {
		g := group(n)
		if g == "" {
			return []string{"", "", "", "", "", "n", "n", "n"}[form]
		}
		return []string{g, strings.ToUpper(g), strings.ToLower(g), strings.ToUpper(g[:1]) + g[1:], "y", "y", g, g}[form]
	}
}

// format draws a format, and what fills it.
func (l *lot) format() (string, func(group func(n int) string) string) {
	var f string
	var fills []func(group func(n int) string) string
	for range l.below(5) {
		s, fill := l.part()
		f += s
		fills = append(fills, fill)
	}
	return f, func(group func(n int) string) string {
		var s string
		for _, fill := range fills {
			s += fill(group)
		}
		return s
	}
}

// pattern draws a pattern that finds no empty text, and of which no repeat has
// an atom that may be empty: there the library goes other ways.
func (l *lot) pattern(deep int) string {
	if deep == 0 {
		return l.among("a", "b", "B", "[ab]", "[^a]", "[^B]", ".", "\\w", "\\D")
	}
	least := l.pattern(deep - 1)
	switch l.below(5) {
	case 0:
		return least + l.pattern(l.below(deep))
	case 1:
		return "(" + least + "|" + l.pattern(l.below(deep)) + ")"
	case 2:
		return "(?:" + least + ")" + l.among("+", "{2}", "{1,3}", "{2,}") + l.among("", "?")
	case 3:
		return "(?:(" + least + ")" + l.among("*", "?", "{0,2}") + l.among("", "?") + l.pattern(l.below(deep)) + ")"
	}
	return "(" + least + ")"
}

// optional draws a pattern that may find empty texts.
func (l *lot) optional(deep int) string {
	p := l.pattern(deep)
	switch l.below(6) {
	case 0:
		return "(?:" + p + ")" + l.among("*", "?", "{0,2}") + l.among("", "?")
	case 1:
		return p + l.among("|", "|$", "|^", "|()", "|(?:a|$)")
	case 2:
		return l.among("|", "$|", "^|", "()|") + p
	case 3:
		return l.among("^", "(?:^|a)") + p
	case 4:
		return p + l.among("$", "(?:b|$)", "b*")
	}
	return p
}

// shortTexts has all texts of at most n of these runes.
func shortTexts(n int, runes string) []string {
	all := []string{""}
	for i := 0; i < len(all); i++ {
		if len(all[i]) < n {
			for _, r := range runes {
				all = append(all, all[i]+string(r))
			}
		}
	}
	return all
}

// transform draws a transform without All, and what fills its format. Few of
// the patterns that are drawn are too long.
func (l *lot) transform(deep int) (x Transform, p string, fill func(group func(n int) string) string) {
	for range 20 {
		var f string
		p = l.optional(l.below(deep + 1))
		f, fill = l.format()
		x = Transform{[]rune(p), []rune(f), false, l.below(2) == 0}
		if Check(x) == api.OK {
			break
		}
	}
	return x, p, fill
}

// holdTold holds the results without All and with it.
func holdTold(t *testing.T, x Transform, w words) {
	t.Helper()
	for _, all := range []bool{false, true} {
		x.All, w.all = all, all
		hold(t, x, []rune(w.text), cut([]rune(w.from(0))))
	}
}

// P8.2

func TestAllShortPatterns(t *testing.T) {
	l := &lot{1}
	held := 0
	texts := shortTexts(3, "ab")
	for _, p := range shortTexts(4, "ab(|)*?^$") {
		if Check(Transform{Pattern: []rune(p)}) != api.OK {
			continue
		}
		held++
		f, fill := l.format()
		for _, s := range texts {
			holdTold(t, Transform{Pattern: []rune(p), Format: []rune(f)}, words{piked(t, p, s, false), fill, s, false})
		}
	}
	if held < 1000 {
		t.Errorf("only %d patterns were held", held)
	}
}

func TestAgainstTheLibrary(t *testing.T) {
	const longest = 9
	l := &lot{2}
	for range 2500 {
		x, p, fill := l.transform(3)
		places := newSearcher(p, longest, x.Fold)
		for range 30 {
			s := l.text("aabbABc\n", longest)
			holdTold(t, x, words{places.in(s), fill, s, false})
		}
	}
}

// Long texts, and formats that give still longer results.
func TestLongTextsAgainstTheWords(t *testing.T) {
	l := &lot{3}
	longer := 0
	for range 400 {
		x, p, fill := l.transform(2)
		s := l.text("aabbABc", 3000)
		w := words{piked(t, p, s, x.Fold), fill, s, true}
		if len(w.from(0)) > 2000 {
			longer++
		}
		holdTold(t, x, w)
	}
	if longer < 50 {
		t.Errorf("only %d long results", longer)
	}
}

// P8.3

func TestWhatIsNotFoundStays(t *testing.T) {
	l := &lot{4}
	unfound := 0
	for range 20000 {
		x, p, _ := l.transform(3)
		s := l.text("aabbABc", 4)
		if _, is := piked(t, p, s, x.Fold)(0); is {
			continue
		}
		unfound++
		hold(t, x, []rune(s), []rune(s))
		x.All = true
		hold(t, x, []rune(s), []rune(s))
	}
	if unfound < 1000 {
		t.Errorf("only %d texts in which nothing is found", unfound)
	}
}
