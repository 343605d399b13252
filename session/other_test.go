package session

import (
	"fmt"
	"math"
	"slices"
	"testing"

	"stylus/api"
	"stylus/expand"
	"stylus/snippet"
	"stylus/transform"
)

// R1

func TestAnyNumbers(t *testing.T) {
	for _, a := range extremes {
		for _, b := range extremes {
			for i, text := range [][]rune{nil, []rune("ab"), long(2000), long(2001)} {
				x := State{text, []expand.Field{
					{N: a, Span: api.Span{From: 0, To: i / 2}, Up: -1, Primary: true, Choices: [][]rune{{'x'}, {'y'}}},
					{N: b, Span: api.Span{From: a, To: b}, Up: i - 1},
					{N: a, Span: api.Span{From: 0, To: 0}, Up: b, Primary: true},
				}, b}
				holdAllWords(t, x)
				holdAllWords(t, State{text, x.Fields[:2], a})
				holdAllWords(t, State{text, x.Fields[1:2], a})
				y := State{text, []expand.Field{x.Fields[0], {N: a, Up: -1}}, a}
				holdAllWords(t, y)
				holdWords(t, y, []api.Edit{put(a, b, "x")})
				holdWords(t, y, []api.Edit{put(0, 1, ""), put(a, b, "x")})
				holdWords(t, y, []api.Edit{put(a, b, "x"), ins(len(text), "y")})
				holdWords(t, x, []api.Edit{put(a, b, "x")})
			}
		}
	}
}

var anyRunes = []rune{math.MinInt32, -2, -1, 0, 1, 9, 10, '$', '\\', 0xD7FF, 0xD800, 0xDFFF, 0xE000, 0xFFFD, 0x10FFFF, 0x110000, math.MaxInt32}

func TestAnyRunes(t *testing.T) {
	for _, r := range anyRunes {
		for _, s := range anyRunes {
			text := []rune{r, s, 'a', r}
			f := expand.Field{N: 1, Span: api.Span{From: 0, To: 2}, Up: -1, Primary: true, Choices: [][]rune{{s, r}, {r, s}, {s}}}
			for _, x := range []State{
				{text, []expand.Field{f, {N: 1, Span: api.Span{From: 2, To: 3}, Up: -1}}, 1},
				{text, []expand.Field{f, {N: 1, Span: api.Span{From: 2, To: 3}, Up: -1, Turn: true, T: transform.Transform{Pattern: []rune{r}, Format: []rune{s}, All: true}}}, 1},
				{text, []expand.Field{f, {N: 1, Span: api.Span{From: 2, To: 3}, Up: -1, Turn: true, T: transform.Transform{Pattern: []rune{s, '|', r}, Format: []rune{s, s}}}}, 1},
			} {
				holdAllWords(t, x)
				holdWords(t, x, []api.Edit{{At: 1, Del: 1, Ins: []rune{r}}})
				holdWords(t, x, []api.Edit{{At: 0, Ins: []rune{'b'}}, {At: 4, Ins: []rune{s}}})
			}
			l := []snippet.Node{{Kind: snippet.Text, Name: []rune{s}}, {Kind: snippet.Var, Name: []rune{r}}, {Kind: snippet.Stop, N: 1}}
			v := []expand.Value{{Name: []rune{r}, Text: []rune{s, s}}}
			x, e := Begin(text, api.Span{From: 1, To: 2}, l, v)
			holdState(t, "Begin", x, e, State{[]rune{r, s, s, s, 'a', r}, fields("1* 4..4, 0* 4..4"), 1})
		}
	}
}

// Parts that were not parsed: Lay returns something for them, and so does Begin.
func TestAnyParts(t *testing.T) {
	l := lot(8)
	for range 20000 {
		parts := l.nodes(3)
		text := l.text(4)
		s := api.Span{From: l.draw(6) - 1, To: l.draw(6) - 1}
		v := value("X", l.text(2))
		x, e := Begin(text, s, parts, v)
		y, f := wordsBegin(text, s, parts, v)
		if e != f || !same(x, y) {
			t.Errorf("Begin(%q, %v, %v): %s, %d, want %s, %d", string(text), s, parts, told(x), e, told(y), f)
		}
		if e == api.OK {
			holdAllWords(t, x)
		}
	}
}

// nodes draws parts of any kind.
func (l *lot) nodes(deep int) []snippet.Node {
	var all []snippet.Node
	for range l.draw(4) {
		x := snippet.Node{Kind: l.draw(7) - 1, N: extremes[l.draw(len(extremes))], Name: []rune("X"), Turn: l.draw(4) == 0, T: l.turn()}
		if l.draw(2) == 0 {
			x.N = l.draw(3)
		}
		for range l.draw(3) {
			x.Choices = append(x.Choices, l.text(2))
		}
		if deep > 0 {
			x.Subs = l.nodes(deep - 1)
		}
		all = append(all, x)
	}
	return all
}

func TestManyFields(t *testing.T) {
	const n = 4000
	x := State{Text: long(1000), Active: 1}
	for i := range n {
		x.Fields = append(x.Fields, expand.Field{N: i % 1999, Span: api.Span{From: i % 1000, To: i % 1000}, Up: -1, Primary: true, Choices: [][]rune{{}, {'x'}}})
	}
	y, e := Settle(x)
	holdState(t, "Settle", y, e, x)
	if l := Numbers(x); len(l) != 1999 || l[0] != 1 || l[1998] != 0 {
		t.Errorf("Numbers: %d numbers", len(l))
	}
	y, e = Cycle(x, false)
	z, f := wordsCycle(x, false)
	if e != f || !same(y, z) || len(y.Text) != 1003 {
		t.Errorf("Cycle: %d runes, %d, want %d runes, %d", len(y.Text), e, len(z.Text), f)
	}
	// Each one in the one before.
	for i := range x.Fields {
		x.Fields[i].Up = i - 1
		x.Fields[i].Span = api.Span{From: i / 8, To: 1000 - i/8}
		x.Fields[i].N = i
	}
	x.Active = n - 1
	y, e = Edit(x, []api.Edit{ins(n/8-1, "ab"), ins(1000-n/8+1, "cd")})
	if last := y.Fields[n-1]; e != api.OK || last.Span != (api.Span{From: n/8 - 1, To: 1000 - n/8 + 5}) || last.Up != n-2 || y.Fields[0].Span.To != 1004 {
		t.Errorf("Edit: %v, %d", last, e)
	}
	x.Active = n
	y, e = Edit(x, []api.Edit{put(0, 1000, "ab")})
	if last := y.Fields[n-1]; e != api.OK || last.Span != (api.Span{From: 2, To: 2}) || last.Up != n-2 {
		t.Errorf("Edit: %v, %d", last, e)
	}
	// Two cross.
	x.Fields[n-1].Span = api.Span{From: 400, To: 501}
	y, e = Settle(x)
	holdState(t, "Settle", y, e, State{Text: x.Text})
}

// What never comes to an end is visited as many times as there are fields, and
// twice more.
func TestManyVisits(t *testing.T) {
	for _, n := range []int{4, 5, 60, 61, 400} {
		x := state("aa", 1, "1* 0..1, 2 0..1 ^0, 2* 1..2, 1 1..2 ^2 /^((b)|a)/${2:?a:b}/")
		for len(x.Fields) < n {
			x.Fields = append(x.Fields, expand.Field{N: 3, Span: api.Span{From: 2, To: 2}, Up: -1, Primary: true})
		}
		// By the first visit it is ab, by each further one the other way round.
		want := over([]string{"ba", "ab"}[n%2])
		holdSettle(t, x, want)
	}
}

func TestLongArguments(t *testing.T) {
	const n = 1000000
	text := long(n)
	x := State{text, fields("1* 0..999 |a,b|, 2 999..1000 ^0"), 1}
	holdRight(t, x, true)
	holdSettleError(t, x, api.ErrFull)
	holdCycleError(t, x, api.ErrFull)
	holdNext(t, x, false, 2, true)
	holdSpan(t, x, api.Span{From: 0, To: 999}, true)
	y, e := Begin(text, api.Span{From: 100, To: n - 100}, parts(t, "${1:a}"), nil)
	holdState(t, "Begin", y, e, State{slices.Concat(long(100), []rune("a"), long(100)), fields("1* 100..101, 0* 101..101"), 1})
	x.Text = text[:1000]
	x.Fields[0].Choices = append([][]rune{text}, slices.Repeat([][]rune{{'b'}}, 100000)...)
	y, e = Cycle(x, false)
	holdError(t, "Cycle", y, e, api.ErrFull)
	y, e = Cycle(x, true)
	holdError(t, "Cycle", y, e, api.ErrFull)
	x.Fields[0].Choices[0] = long(999)
	if y, e = Cycle(x, true); e != api.OK || string(y.Text) != "bq" || len(y.Fields[0].Choices) != 100001 {
		t.Errorf("Cycle: %d runes, %d", len(y.Text), e)
	}
	many := slices.Repeat([]api.Edit{ins(5, "")}, 50000)
	holdEdit(t, state("abcdef", 1, "1* 1..5, 2* 5..5"), many, state("abcdef", 1, "1* 1..5, 2* 5..5"))
	holdEditError(t, state("abcdef", 1, "1* 1..5, 2* 5..5"), append(many, ins(4, "")), api.ErrArg)
	holdEditError(t, state("abcdef", 1, "1* 1..5"), append(many, ins(5, string(text))), api.ErrFull)
}

// R2: with each error at once the first one is returned, and nothing beside it.

func TestErrorsAtOnce(t *testing.T) {
	badSpan, badTurn := "1* 0..9 |a,b|", "1* 0..1 |a,b| /(//"
	for _, x := range []State{state("abc", 1, badSpan), state("abc", 1, badTurn), {long(2001), fields(badTurn), 1}, {long(8), fields(badSpan + ", 1 0..1"), 1}} {
		holdSettleError(t, x, api.ErrArg)
		holdCycleError(t, x, api.ErrArg)
		holdEditError(t, x, []api.Edit{ins(99, "X"), ins(0, string(long(3000)))}, api.ErrArg)
	}
	x := State{long(2001), fields("1* 0..1 |a,b|"), 1}
	holdCycleError(t, x, api.ErrFull)
	x.Active = 2
	holdCycleError(t, x, api.ErrNone)
	holdEditError(t, x, []api.Edit{ins(2002, "")}, api.ErrArg)
	// By the time of the error some edits and some mirrors are done.
	y := State{long(1990), fields("1* 0..5 |a,b|, 1 9..10, 1 11..12, 1 20..21"), 1}
	holdSettleError(t, y, api.ErrFull)
	holdEditError(t, y, []api.Edit{ins(0, "X"), put(8, 7, "XYZ")}, api.ErrFull)
	holdBeginError(t, long(2001), 5, 4, parts(t, "${1:$1}"), nil, api.ErrArg)
	holdBeginError(t, long(2001), 5, 5, parts(t, "${1:$1}"), nil, api.ErrDeep)
	holdBeginError(t, long(2001), 5, 5, parts(t, "$1"), nil, api.ErrFull)
}

// R3

// clone returns a session in memory of its own.
func clone(x State) State {
	y := State{slices.Clone(x.Text), slices.Clone(x.Fields), x.Active}
	for i := range y.Fields {
		f := &y.Fields[i]
		f.Choices = slices.Clone(f.Choices)
		for j := range f.Choices {
			f.Choices[j] = slices.Clone(f.Choices[j])
		}
		f.T.Pattern, f.T.Format = slices.Clone(f.T.Pattern), slices.Clone(f.T.Format)
	}
	return y
}

// roomy returns a list with room behind its end.
func roomy[T any](l []T, behind ...T) []T {
	return append(slices.Clone(l), behind...)[:len(l)]
}

// roomyState returns a session whose lists all have room behind their ends.
func roomyState(x State) State {
	y := State{roomy(x.Text, 'g', -5, 'h'), roomy(x.Fields, fields("7* 0..1 |x,y| /a/b/, 8 3..4")...), x.Active}
	for i := range y.Fields {
		f := &y.Fields[i]
		f.Choices = roomy(f.Choices, []rune("no"), nil)
		for j := range f.Choices {
			f.Choices[j] = roomy(f.Choices[j], 'g', 'h')
		}
		f.T.Pattern, f.T.Format = roomy(f.T.Pattern, '(', 'h'), roomy(f.T.Format, '$', 'h')
	}
	return y
}

// whole returns a session with all the memory of its lists.
func whole(x State) State {
	y := State{x.Text[:cap(x.Text)], slices.Clone(x.Fields[:cap(x.Fields)]), x.Active}
	for i := range y.Fields {
		f := &y.Fields[i]
		f.Choices = slices.Clone(f.Choices[:cap(f.Choices)])
		for j := range f.Choices {
			f.Choices[j] = f.Choices[j][:cap(f.Choices[j])]
		}
		f.T.Pattern, f.T.Format = f.T.Pattern[:cap(f.T.Pattern)], f.T.Format[:cap(f.T.Format)]
	}
	return y
}

// spoil writes over all memory of a list.
func spoil[T any](l []T, with T) {
	l = l[:cap(l)]
	for i := range l {
		l[i] = with
	}
}

// spoilers returns what writes over one list of a session each.
func spoilers(x State) []func() {
	l := []func(){func() { spoil(x.Text, -77) }}
	for i := range x.Fields {
		f := &x.Fields[i]
		pattern, format, choices := f.T.Pattern, f.T.Format, f.Choices
		l = append(l, func() { spoil(pattern, -77) }, func() { spoil(format, -77) })
		for _, c := range choices {
			l = append(l, func() { spoil(c, -77) })
		}
		l = append(l, func() { spoil(choices, []rune{-77}) })
	}
	return append(l, func() { spoil(x.Fields, expand.Field{N: -77, Up: -77}) })
}

func spoilState(x State) {
	for _, spoilOne := range spoilers(x) {
		spoilOne()
	}
}

// lists returns all lists of runes of a session.
func lists(x State) [][]rune {
	l := [][]rune{x.Text}
	for _, f := range x.Fields {
		l = append(l, f.T.Pattern, f.T.Format)
		l = append(l, f.Choices...)
	}
	return l
}

// holdApart holds that no two lists of a session share memory.
func holdApart(t *testing.T, what string, x State) {
	t.Helper()
	l := lists(x)
	for i := range l {
		l[i] = l[i][:cap(l[i])]
		spoil(l[i], rune(i))
	}
	for i := range l {
		for _, r := range l[i] {
			if r != rune(i) {
				t.Errorf("%s: list %d shares memory with list %d", what, i, r)
				return
			}
		}
	}
	for i := range x.Fields {
		spoil(x.Fields[i].Choices, []rune{rune(i)})
	}
	for i := range x.Fields {
		for _, c := range x.Fields[i].Choices[:cap(x.Fields[i].Choices)] {
			if c[0] != rune(i) {
				t.Errorf("%s: choices of field %d share memory with those of field %d", what, i, c[0])
				return
			}
		}
	}
}

// call is a call with a session, and with edits.
type call struct {
	name string
	do   func(x State, l []api.Edit) State
}

func calls() []call {
	return []call{
		{"Settle", func(x State, l []api.Edit) State { y, _ := Settle(x); return y }},
		{"Edit", func(x State, l []api.Edit) State { y, _ := Edit(x, l); return y }},
		{"Next", func(x State, l []api.Edit) State { y, _ := Next(x, false); return y }},
		{"Next back", func(x State, l []api.Edit) State { y, _ := Next(x, true); return y }},
		{"Cycle", func(x State, l []api.Edit) State { y, _ := Cycle(x, false); return y }},
		{"Cycle back", func(x State, l []api.Edit) State { y, _ := Cycle(x, true); return y }},
		{"Numbers", func(x State, l []api.Edit) State { n := Numbers(x); spoil(n, 9); return State{} }},
		{"Right", func(x State, l []api.Edit) State { return State{Active: len(fmt.Sprint(Right(x)))} }},
		{"Span", func(x State, l []api.Edit) State { s, _ := Span(x); return State{Active: s.From} }},
	}
}

// given has sessions, of which some have an error.
func given() []State {
	l := []State{
		{},
		state("ab-ab", 1, "1* 0..2 |ab,c,d|, 1 3..5 |x|, 0* 5..5"),
		state("ab-ab", 0, "1* 0..2 |ab,c,d|, 1 3..5 /a/b/, 0* 5..5 |,x|"),
		state("ab-ab", 2, "1* 0..2, 1 3..4 |a| /(/x/, 2* 0..1 |a,b|"),
		state("abcd", 1, "1* 0..2 |ab,x|, 2* 1..3 |q| /a/b/"),
		state("abcd", 1, "1* 0..2 |ab,x|, 2* 1..9 |q| /a/b/"),
		state("x(y)", 1, "1 0..1 /x|y/<$0>/g, 2* 1..4 |a,b|, 1* 2..3 ^1 |y,xy,y|"),
		{long(2000), fields("1* 0..1 |q,qq| /a/b/, 1 4..7, 2 9..9"), 1},
		{long(2001), fields("1* 0..1 |q,qq| /a/b/, 1 4..7, 2 9..9"), 1},
		{long(1999), fields("1* 0..1 |q,qqq| /a/b/, 1 4..5, 2 9..9"), 1},
	}
	draws := lot(66)
	for range 200 {
		l = append(l, draws.state(8, 5))
	}
	return l
}

var someEdits = [][]api.Edit{
	nil,
	{ins(0, "xyz")},
	{put(0, 1, "xy"), put(1, 1, ""), ins(2, "z")},
	{ins(0, "x"), {At: 1, Ins: []rune{-1}}},
	{put(1, 1, "xy"), put(1, 1, "xy")},
}

func roomyEdits(l []api.Edit) []api.Edit {
	m := roomy(l, ins(7, "no"), put(8, 9, "no"))
	for i := range m {
		m[i].Ins = roomy(m[i].Ins, 'g', -3)
	}
	return m
}

func wholeEdits(l []api.Edit) []api.Edit {
	m := slices.Clone(l[:cap(l)])
	for i := range m {
		m[i].Ins = m[i].Ins[:cap(m[i].Ins)]
	}
	return m
}

func sameEdits(l, m []api.Edit) bool {
	return slices.EqualFunc(l, m, func(a, b api.Edit) bool { return a.At == b.At && a.Del == b.Del && slices.Equal(a.Ins, b.Ins) })
}

func cloneEdits(l []api.Edit) []api.Edit {
	m := slices.Clone(l)
	for i := range m {
		m[i].Ins = slices.Clone(m[i].Ins)
	}
	return m
}

func TestArgumentsStay(t *testing.T) {
	for _, g := range given() {
		for _, c := range calls() {
			for _, l := range someEdits {
				x, m := roomyState(g), roomyEdits(l)
				before, edits := clone(whole(x)), cloneEdits(wholeEdits(m))
				y := c.do(x, m)
				if !same(whole(x), before) || !sameEdits(wholeEdits(m), edits) {
					t.Errorf("%s(%s, %v): %s, %v", c.name, told(g), l, told(whole(x)), wholeEdits(m))
				}
				spoilState(y)
				if !same(whole(x), before) || !sameEdits(wholeEdits(m), edits) {
					t.Errorf("%s(%s, %v) shares memory with what was handed in", c.name, told(g), l)
				}
			}
		}
	}
}

func TestArgumentsAreNotKept(t *testing.T) {
	for _, g := range given() {
		for _, c := range calls() {
			for _, l := range someEdits {
				x, m := roomyState(g), roomyEdits(l)
				y := c.do(x, m)
				want := clone(y)
				spoilState(x)
				for i := range m {
					spoil(m[i].Ins, -77)
				}
				spoil(m, api.Edit{At: -77})
				if !same(y, want) {
					t.Errorf("%s(%s, %v) keeps what was handed in: %s, want %s", c.name, told(g), l, told(y), told(want))
				}
				if z := c.do(clone(g), cloneEdits(l)); !same(z, want) {
					t.Errorf("%s(%s, %v) again: %s, want %s", c.name, told(g), l, told(z), told(want))
				}
				holdApart(t, c.name, y)
			}
		}
	}
}

func TestBeginMemory(t *testing.T) {
	for _, s := range []string{"", "a$X", "${1:$X}$1${1/a/b/}${2|x,y|}$Y", "${1|x,y|}${1|x,y|}"} {
		text := roomy([]rune("abcd"), 'g', -4)
		l := roomy(parts(t, s), snippet.Node{Kind: snippet.Text, Name: []rune("no")})
		v := roomy([]expand.Value{{Name: roomy([]rune("X"), 'Y'), Text: roomy([]rune("xx"), 'g')}}, value("Y", []rune("no"))...)
		printed := string(snippet.Print(l[:cap(l)]))
		x, e := Begin(text, api.Span{From: 1, To: 3}, l, v)
		want := clone(x)
		if e != api.OK || string(text[:4]) != "abcd" || text[:6][4] != 'g' || text[:6][5] != -4 {
			t.Errorf("Begin(%q): %d, %q", s, e, string(text[:6]))
		}
		if string(snippet.Print(l[:cap(l)])) != printed || string(v[0].Text[:3]) != "xxg" || string(v[0].Name[:2]) != "XY" || string(v[:2][1].Text) != "no" {
			t.Errorf("Begin(%q): the parts or the values have changed", s)
		}
		spoil(text, -77)
		spoilNodes(l)
		spoil(v[0].Text, -77)
		spoil(v[0].Name, -77)
		spoil(v, expand.Value{})
		if !same(x, want) {
			t.Errorf("Begin(%q) keeps what was handed in: %s, want %s", s, told(x), told(want))
		}
		holdApart(t, "Begin", x)
	}
}

// What Begin returned is not what a second call returns.
func TestBeginTwice(t *testing.T) {
	l, text := parts(t, "${1:a}$1${1/a/b/}${2|x,y|}"), []rune("abcd")
	x, _ := Begin(text, api.Span{}, l, nil)
	y, _ := Begin(text, api.Span{}, l, nil)
	want := clone(x)
	spoilState(x)
	if !same(y, want) || string(text) != "abcd" {
		t.Errorf("Begin: %s, want %s", told(y), told(want))
	}
	if z, e := Begin(text, api.Span{}, l, nil); e != api.OK || !same(z, want) {
		t.Errorf("Begin: %s, want %s", told(z), told(want))
	}
}

func spoilNodes(l []snippet.Node) {
	for _, x := range l {
		spoil(x.Name, -77)
		spoil(x.T.Pattern, -77)
		spoil(x.T.Format, -77)
		for _, c := range x.Choices {
			spoil(c, -77)
		}
		spoil(x.Choices, []rune{-77})
		spoilNodes(x.Subs)
	}
	spoil(l, snippet.Node{Kind: -77})
}

func TestNilAndEmpty(t *testing.T) {
	empty := State{[]rune{}, []expand.Field{}, 1}
	for _, c := range calls() {
		if x, y := c.do(State{Active: 1}, nil), c.do(empty, []api.Edit{}); !same(x, y) {
			t.Errorf("%s: %s, want %s", c.name, told(y), told(x))
		}
	}
	x := state("a", 1, "1* 0..1, 1 1..1 /^//")
	x.Fields[0].Choices = [][]rune{nil, {'a'}}
	x.Fields[1].T.Format = nil
	y := clone(x)
	y.Fields[0].Choices[0] = []rune{}
	y.Fields[0].T.Pattern, y.Fields[0].T.Format, y.Fields[1].T.Format, y.Fields[1].Choices = []rune{}, []rune{}, []rune{}, [][]rune{}
	for _, c := range calls() {
		for _, ins := range [][]rune{nil, {}} {
			l := []api.Edit{{At: 1, Ins: ins}}
			if a, b := c.do(x, l), c.do(y, l); !same(a, b) {
				t.Errorf("%s: %s, want %s", c.name, told(b), told(a))
			}
		}
	}
	a, e := Begin(nil, api.Span{}, nil, nil)
	b, f := Begin([]rune{}, api.Span{}, []snippet.Node{}, []expand.Value{})
	if e != f || !same(a, b) {
		t.Errorf("Begin: %s, %d, want %s, %d", told(b), f, told(a), e)
	}
}

// R4

func TestTheSameAgain(t *testing.T) {
	type result struct {
		c    call
		x, y State
		l    []api.Edit
	}
	var all []result
	for _, x := range given() {
		for _, c := range calls() {
			for _, l := range someEdits[:3] {
				all = append(all, result{c, x, c.do(x, l), l})
			}
		}
	}
	for _, r := range slices.Backward(all) {
		if y := r.c.do(r.x, r.l); !same(y, r.y) {
			t.Errorf("%s(%s, %v): %s, want %s", r.c.name, told(r.x), r.l, told(y), told(r.y))
		}
	}
}
