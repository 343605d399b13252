package expand

import (
	"slices"
	"strings"
	"testing"

	"stylus/api"
	"stylus/snippet"
	"stylus/transform"
)

// seen is a part that is visited, and the one in whose Subs it is.
type seen struct {
	x  snippet.Node
	in int
}

// words lays a snippet out as the chapter's words say it, one by one. It keeps
// nothing but the list of what is visited.
type words struct {
	values []Value
	list   []seen
	steps  int
}

func (w *words) value(x snippet.Node) ([]rune, bool) {
	i := slices.IndexFunc(w.values, func(v Value) bool { return string(v.Name) == string(x.Name) })
	if x.Kind != snippet.Var || i < 0 {
		return nil, false
	}
	return w.values[i].Text, true
}

func isField(x snippet.Node) bool {
	return x.Kind == snippet.Stop || x.Kind == snippet.Choice
}

func isFull(x snippet.Node) bool {
	return x.Kind == snippet.Stop && len(x.Subs) > 0 || x.Kind == snippet.Choice
}

func (w *words) visit(l []snippet.Node, in int) {
	for _, x := range l {
		before := slices.ContainsFunc(w.list, func(y seen) bool { return isFull(y.x) && y.x.N == x.N })
		i := len(w.list)
		w.list = append(w.list, seen{x, in})
		_, set := w.value(x)
		if x.Kind == snippet.Var && !set || x.Kind == snippet.Stop && len(x.Subs) > 0 && !before {
			w.visit(x.Subs, i)
		}
	}
}

// primary returns the index of the primary of a number.
func (w *words) primary(n int) int {
	suits := []func(x snippet.Node) bool{isFull, func(x snippet.Node) bool { return x.Kind == snippet.Stop && !x.Turn }, isField}
	for _, f := range suits {
		if i := slices.IndexFunc(w.list, func(y seen) bool { return isField(y.x) && y.x.N == n && f(y.x) }); i >= 0 {
			return i
		}
	}
	return -1
}

// circular reports whether the text of a number needs itself. A number needs
// those that are anywhere inside its primary, and what they need.
func (w *words) circular() bool {
	var needs [100][100]bool
	var numbers []int
	for i, y := range w.list {
		if !isField(y.x) {
			continue
		}
		if !slices.Contains(numbers, y.x.N) {
			numbers = append(numbers, y.x.N)
		}
		for up := w.list[i].in; up >= 0; up = w.list[up].in {
			if x := w.list[up].x; isField(x) {
				needs[x.N][y.x.N] = true
			}
		}
	}
	for _, b := range numbers {
		for _, a := range numbers {
			for _, c := range numbers {
				needs[a][c] = needs[a][c] || needs[a][b] && needs[b][c]
			}
		}
	}
	return slices.ContainsFunc(numbers, func(n int) bool { return needs[n][n] })
}

// within returns the texts of the visited parts that are in one.
func (w *words) within(in int) []rune {
	var t []rune
	for i, y := range w.list {
		if y.in == in {
			t = append(t, w.text(i)...)
		}
	}
	return t
}

func (w *words) text(i int) []rune {
	w.steps++
	if w.steps > 100000 {
		panic("too many steps")
	}
	x := w.list[i].x
	var t []rune
	if v, set := w.value(x); set {
		t = v
	} else if x.Kind == snippet.Var {
		return w.within(i)
	} else if x.Kind == snippet.Text {
		return x.Name
	} else {
		p := w.primary(x.N)
		if y := w.list[p].x; y.Kind == snippet.Choice {
			t = y.Choices[0]
		} else {
			t = w.within(p)
		}
		if p == i {
			return t
		}
	}
	if x.Turn {
		t, _ = transform.Apply(x.T, t)
	}
	return t
}

// at returns where the text of a part begins.
func (w *words) at(i int) int {
	place := 0
	in := w.list[i].in
	if in >= 0 {
		place = w.at(in)
	}
	for j, y := range w.list[:i] {
		if y.in == in {
			place += len(w.text(j))
		}
	}
	return place
}

// fields returns the fields. The one in which a part is comes before it.
func (w *words) fields() []Field {
	var l []Field
	index := map[int]int{-1: -1}
	for i, y := range w.list {
		if !isField(y.x) {
			index[i] = index[y.in]
			continue
		}
		index[i] = len(l)
		from := w.at(i)
		l = append(l, Field{y.x.N, api.Span{From: from, To: from + len(w.text(i))}, index[y.in], w.primary(y.x.N) == i, y.x.Choices, y.x.Turn, y.x.T})
	}
	if !slices.ContainsFunc(l, func(x Field) bool { return x.N == 0 }) {
		end := len(w.within(-1))
		l = append(l, Field{Span: api.Span{From: end, To: end}, Up: -1, Primary: true})
	}
	return l
}

// byWords returns what Lay returns, and false if the words take too many steps.
func byWords(l []snippet.Node, values []Value) (text []rune, f []Field, e api.Errno, done bool) {
	w := words{values: values}
	w.visit(l, -1)
	if w.circular() {
		return nil, nil, api.ErrDeep, true
	}
	defer func() {
		if recover() != nil {
			text, f, e, done = nil, nil, 0, false
		}
	}()
	text = w.within(-1)
	f = w.fields()
	if len(text) > 2000 || len(f) > 60 {
		return nil, nil, api.ErrFull, true
	}
	return text, f, api.OK, true
}

// holdWords holds what Lay returns against the words, and returns the error.
func holdWords(t *testing.T, l []snippet.Node, values []Value) (api.Errno, bool) {
	t.Helper()
	text, f, e := Lay(l, values)
	want, fields, g, done := byWords(l, values)
	if !done {
		return e, false
	}
	if !slices.Equal(text, want) || told(f) != told(fields) || e != g {
		t.Fatalf("Lay(%q): %q, %s, %d, want %q, %s, %d", string(snippet.Print(l)), string(text), told(f), e, string(want), told(fields), g)
	}
	holdLaws(t, l, text, f)
	return e, true
}

// short calls f with all snippets of up to so many of the pieces, where those
// that end with a : have a } behind them.
func short(pieces []string, longest int, f func(s string)) {
	var add func(s string, n, open int)
	add = func(s string, n, open int) {
		f(s + strings.Repeat("}", open))
		if n == longest {
			return
		}
		for _, p := range pieces {
			if strings.HasSuffix(p, ":") {
				add(s+p, n+1, open+1)
			} else {
				add(s+p, n+1, open)
			}
		}
		if open > 0 && n > 0 && !strings.HasSuffix(s, ":") {
			add(s+"}", n, open-1)
		}
	}
	add("", 0, 0)
}

func TestAllShortSnippets(t *testing.T) {
	values := pairs("X", "bab", "X", "no", "E", "")
	var counts [api.ErrTwice]int
	for _, c := range []struct {
		pieces  string
		longest int
	}{
		{"a ${1} ${1: ${2} ${2:", 6},
		{"${1} ${1: ${2} ${2: ${3} ${3:", 5},
		{"a ${1} ${1: ${1|b,c|} ${1||} ${2:", 5},
		{"a ${1} ${1: ${1/^/b/} ${1/./<$0>/g} ${2: ${2}", 5},
		{"a ${0} ${0: ${0|b|} ${0/a/b/} ${1:", 5},
		{"a ${X} ${X: ${Y: ${E: ${1} ${1:", 5},
		{"${1} ${Y/^/c/} ${X/b/c/} ${X/b/c/g} ${E/^/c/} ${Y: ${2:", 5},
		{"a ${1} ${1: ${1|b,c|} ${1/a/b/} ${2} ${2: ${2|a|} ${2/^/<$0>/} ${0} ${0: ${X} ${X: ${E: ${Y: ${01} $E", 4},
	} {
		short(strings.Split(c.pieces, " "), c.longest, func(s string) {
			e, _ := holdWords(t, parsed(t, s), values)
			counts[e]++
		})
	}
	if counts[api.OK] < 100000 || counts[api.ErrDeep] < 50000 {
		t.Errorf("only %v", counts)
	}
}

// lot draws the same numbers in each run of the tests.
type lot struct{ n uint64 }

func (l *lot) below(n int) int {
	l.n = l.n*6364136223846793005 + 1442695040888963407
	return int((l.n >> 33) % uint64(n))
}

// among draws one of several texts.
func (l *lot) among(all ...string) string {
	return all[l.below(len(all))]
}

// part draws a part, with parts in it up to a depth. Low numbers need higher
// ones mostly, so that not all that is drawn is circular.
func (l *lot) part(low, deep int) string {
	n := low + l.below(4)
	if l.below(8) == 0 {
		n = l.below(30)
	}
	number := l.among("", "0") + string(rune('0'+n%10))
	if n >= 10 {
		number = string([]rune{rune('0' + n/10), rune('0' + n%10)})
	}
	kind := l.below(12)
	if deep == 0 && kind > 7 {
		kind -= 8
	}
	switch kind {
	case 0, 1:
		return "${" + number + "}"
	case 2:
		return "${" + number + "|" + l.among("", "a", "ab", "a,b", ",b", "bbb,a,c") + "|}"
	case 3, 4:
		return "${" + number + "/" + l.among("a", "b*", "^", "$", "(a)|(b)", "A", ".*", "[^b]", "q") + "/" + l.among("", "b", "<$0>", "$1-$2", "${0:/upcase}", "${1:?x:yz}") + "/" + l.among("", "g", "i", "gi") + "}"
	case 5:
		return l.among("${X}", "${Y}", "${E}", "${X/a/b/g}", "${X/$/ccc/}", "${Y/^/c/}", "${E/^/c/}", "${XX/.//}")
	case 6, 7:
		return l.among("a", "b", "ab", "-", `\$`, `\}`, "é")
	case 8, 9:
		return "${" + number + ":" + l.parts(n+1-l.below(4)/3, deep-1) + "}"
	}
	return "${" + l.among("X", "Y", "Y", "Y", "Z", "E") + ":" + l.parts(low, deep-1) + "}"
}

func (l *lot) parts(low, deep int) string {
	var s strings.Builder
	for range l.below(5) {
		s.WriteString(l.part(low, deep))
	}
	return s.String()
}

func TestDrawnSnippets(t *testing.T) {
	var counts [api.ErrTwice]int
	mirrors, skipped := 0, 0
	draw := lot{1}
	for range 30000 {
		var s strings.Builder
		for range 1 + draw.below(8) {
			s.WriteString(draw.part(1, 3))
		}
		l, _, e := snippet.Parse([]rune(s.String()))
		if e != api.OK {
			if e != api.ErrFull {
				t.Fatalf("Parse(%q): %d", s.String(), e)
			}
			continue
		}
		values := pairs("X", strings.Repeat("ab", draw.below(3)), "E", "", "XX", "abc")
		if draw.below(20) == 0 {
			values = pairs("E", "", "X", strings.Repeat("a", 600+draw.below(1500)))
		}
		e, done := holdWords(t, l, values)
		if !done {
			skipped++
			continue
		}
		counts[e]++
		if _, f, _ := Lay(l, values); len(f) > 8 {
			mirrors++
		}
	}
	if counts[api.OK] < 20000 || counts[api.ErrDeep] < 2000 || counts[api.ErrFull] < 100 || mirrors < 2000 || skipped > 1000 {
		t.Errorf("only %v, %d with many fields, %d skipped", counts, mirrors, skipped)
	}
}

// Snippets of many numbers, as long as they may be, in any order.
func TestDrawnNumbers(t *testing.T) {
	var counts [api.ErrTwice]int
	draw := lot{2}
	for range 10000 {
		n := 2 + draw.below(14)
		order := make([]int, n)
		for i := range order {
			order[i] = i
			j := draw.below(i + 1)
			order[i], order[j] = order[j], order[i]
		}
		var s strings.Builder
		for _, i := range order {
			s.WriteString("${" + twoDigits(i) + ":" + draw.among("", "a", "ab"))
			for range draw.below(3) {
				m := i + 1 + draw.below(n)
				if draw.below(6) == 0 {
					m = draw.below(n)
				}
				s.WriteString(draw.among("$"+twoDigits(m), "${Y:$"+twoDigits(m)+"}", "${"+twoDigits(m)+"/a/b/}"))
			}
			s.WriteString("}")
		}
		l, _, e := snippet.Parse([]rune(s.String()))
		if e == api.OK {
			e, _ = holdWords(t, l, nil)
			counts[e]++
		}
	}
	if counts[api.OK] < 5000 || counts[api.ErrDeep] < 1000 {
		t.Errorf("only %v", counts)
	}
}

func twoDigits(n int) string {
	return string([]rune{rune('0' + n/10), rune('0' + n%10)})
}
