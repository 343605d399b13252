package expand

import (
	"math"
	"reflect"
	"slices"
	"strings"
	"testing"

	"stylus/api"
	"stylus/snippet"
	"stylus/transform"
)

// R1

// odds has numbers, texts, lists and transforms of all kinds.
type odds struct {
	kinds, numbers []int
	texts          [][]rune
	choices        [][][]rune
	turns          []transform.Transform
}

func allOdds() odds {
	odd := []rune{-1, 'a', '$', '}', '\\', '/', ',', '|', math.MinInt32, math.MaxInt32, 1114112, 55296, 0}
	return odds{
		kinds:   []int{math.MinInt, -1, 0, 1, 2, 3, 4, 5, 258, 1 << 32, math.MaxInt},
		numbers: []int{math.MinInt, -1, 0, 1, 7, 99, 100, 12345, math.MaxInt},
		texts:   [][]rune{nil, {}, []rune("X"), []rune("1a"), odd, make([]rune, 1999), make([]rune, 3000)},
		choices: [][][]rune{nil, {}, {nil}, {{}}, {odd, nil, []rune("a")}, {make([]rune, 3000)}, make([][]rune, 70)},
		turns:   []transform.Transform{{}, {Pattern: []rune("a"), Format: []rune("b")}, {Pattern: []rune{'\\'}}, {Pattern: []rune("("), All: true}, {Format: []rune("${"), Fold: true}, {Pattern: odd, Format: odd}, {Pattern: make([]rune, 300)}, {Format: make([]rune, 3000)}, {Format: make([]rune, 400), All: true}},
	}
}

// holdReturn holds that Lay returns, with fields that are in the text and in
// one another, or with an error alone.
func holdReturn(t *testing.T, l []snippet.Node, values []Value) {
	t.Helper()
	text, f, e := Lay(l, values)
	switch e {
	case api.OK:
		holdLaws(t, nil, text, f)
		if len(text) > 2000 || len(f) > 60 || !slices.ContainsFunc(f, func(x Field) bool { return x.N == 0 }) {
			t.Errorf("Lay(%v): %d runes, %d fields", l, len(text), len(f))
		}
	case api.ErrDeep, api.ErrFull:
		if len(text) != 0 || len(f) != 0 {
			t.Errorf("Lay(%v): %v, %v, %d", l, text, f, e)
		}
	default:
		t.Errorf("Lay(%v): %d", l, e)
	}
}

func TestOtherParts(t *testing.T) {
	o := allOdds()
	for _, kind := range o.kinds {
		for _, n := range o.numbers {
			for i, name := range o.texts {
				for j, choices := range o.choices {
					for k, turn := range o.turns {
						values := []Value{{}, {Name: name[:min(2, len(name))], Text: o.texts[(j+k)%len(o.texts)]}}
						x := snippet.Node{Kind: kind, N: n, Name: name, Choices: choices, T: turn}
						holdReturn(t, []snippet.Node{x, x}, values[:i%3])
						x.Turn = true
						holdReturn(t, []snippet.Node{x, x}, values[:i%3])
						x.Subs = []snippet.Node{{Kind: 1, Name: name}, {}, {Kind: 2, N: n + 1, Turn: true, T: turn}}
						holdReturn(t, []snippet.Node{x, {Kind: 2, N: n, Turn: true, T: turn}, x}, values[:i%3])
						subs := slices.Concat(x.Subs, []snippet.Node{x})
						x.Turn, x.Subs = false, subs
						holdReturn(t, []snippet.Node{x, {Kind: 4, Subs: subs}}, values[:i%3])
					}
				}
			}
		}
	}
}

// otherPart draws a part of any kind.
func (l *lot) otherPart(o odds, deep int) snippet.Node {
	x := snippet.Node{
		Kind:    l.below(6),
		N:       l.below(8),
		Name:    o.texts[l.below(5)],
		Choices: o.choices[l.below(5)],
		Turn:    l.below(4) == 0,
	}
	if l.below(10) == 0 {
		x.N = o.numbers[l.below(len(o.numbers))]
		x.Name = o.texts[l.below(len(o.texts))]
		x.Choices = o.choices[l.below(len(o.choices))]
	}
	if l.below(2) == 0 {
		x.T = o.turns[l.below(len(o.turns))]
	}
	if deep > 0 && l.below(2) == 0 {
		x.Subs = l.otherParts(o, deep-1)
	}
	return x
}

func (l *lot) otherParts(o odds, deep int) []snippet.Node {
	m := make([]snippet.Node, l.below(5))
	for i := range m {
		m[i] = l.otherPart(o, deep)
	}
	return m
}

func TestDrawnOtherParts(t *testing.T) {
	o := allOdds()
	draw := lot{3}
	for range 50000 {
		var values []Value
		for range draw.below(4) {
			values = append(values, Value{o.texts[draw.below(5)], o.texts[draw.below(len(o.texts))]})
		}
		holdReturn(t, draw.otherParts(o, 4), values)
	}
}

// Parts that are deeper, longer and more than any that are parsed.
func TestHugeParts(t *testing.T) {
	text := snippet.Node{Kind: snippet.Text, Name: []rune("a")}
	for _, kind := range []int{snippet.Stop, snippet.Var, snippet.Choice, snippet.Text, 0} {
		deep := []snippet.Node{text}
		for range 60000 {
			deep = []snippet.Node{{Kind: kind, N: 1, Name: []rune("Y"), Subs: deep}, text}
		}
		holdReturn(t, deep, nil)
		// With other ones around them.
		for i := range 2000 {
			deep = []snippet.Node{{Kind: kind + i%2*2, N: i, Subs: deep}}
		}
		holdReturn(t, deep, nil)
	}
	// A chain of many numbers, forwards and backwards, and in a circle.
	const many = 300000
	forth, back := make([]snippet.Node, many), make([]snippet.Node, many)
	for i := range many {
		forth[i] = snippet.Node{Kind: snippet.Stop, N: i, Subs: []snippet.Node{{Kind: snippet.Stop, N: i + 1}}}
		back[many-1-i] = forth[i]
	}
	holdReturn(t, forth, nil)
	holdReturn(t, back, nil)
	forth[many-1].Subs[0].N = 0
	if text, f, e := Lay(forth, nil); len(text) != 0 || len(f) != 0 || e != api.ErrDeep {
		t.Errorf("a circle of many numbers: %d", e)
	}
	if text, f, e := Lay(back, nil); len(text) != 0 || len(f) != 0 || e != api.ErrDeep {
		t.Errorf("a circle of many numbers: %d", e)
	}
	// Many parts, of which nothing is seen.
	nothing := make([]snippet.Node, many)
	for i := range nothing {
		nothing[i] = snippet.Node{Kind: i % 2 * snippet.Var, N: i, Name: []rune("Y")}
	}
	holdReturn(t, nothing, pairs("X", "x"))
	holdReturn(t, slices.Repeat([]snippet.Node{text}, many), nil)
}

// R3

// deepCopy copies all of a value.
func deepCopy(v reflect.Value) reflect.Value {
	c := reflect.New(v.Type()).Elem()
	switch v.Kind() {
	case reflect.Slice:
		if !v.IsNil() {
			c.Set(reflect.MakeSlice(v.Type(), v.Len(), v.Len()))
		}
		for i := range v.Len() {
			c.Index(i).Set(deepCopy(v.Index(i)))
		}
	case reflect.Struct:
		for i := range v.NumField() {
			c.Field(i).Set(deepCopy(v.Field(i)))
		}
	default:
		c.Set(v)
	}
	return c
}

func copyOf[T any](x T) T {
	return deepCopy(reflect.ValueOf(x)).Interface().(T)
}

// spoil overwrites all lists of a value, also beyond their ends.
func spoil(v reflect.Value) {
	switch v.Kind() {
	case reflect.Slice:
		v = v.Slice3(0, v.Cap(), v.Cap())
		for i := range v.Len() {
			spoil(v.Index(i))
			if v.Index(i).Kind() == reflect.Int32 {
				v.Index(i).SetInt(-7)
			} else {
				v.Index(i).SetZero()
			}
		}
	case reflect.Struct:
		for i := range v.NumField() {
			spoil(v.Field(i))
		}
	}
}

// lists returns all lists of runes of a text and its fields.
func lists(text []rune, l []Field) [][]rune {
	all := [][]rune{text}
	for _, x := range l {
		all = append(append(all, x.T.Pattern, x.T.Format), x.Choices...)
	}
	return all
}

// memorySnippets has snippets with all that a field may have.
func memorySnippets() []string {
	return []string{
		"", "abc", "$X", "${1:ab}", "${1:a$X}$1", "$0$0", "${1|ab,cd|}${1|ef,gh|}", "${1/^/a/}${1/^/b/g}", "${1|ab,c|}${1/a/bc/i}$1",
		"${X/x/y/}", "${Y:${1:b}$X}c", "${1:${2:$X$3}}${3|x,y,z|}${2/x/z/gi}${1/y/(z)/}$4", "${1|a,b|}${2|a,b|}${3|a,b|}",
		"${1:$X}${1:$1}$0", "$X${1||}${2|,|}",
	}
}

func TestMemory(t *testing.T) {
	for _, s := range memorySnippets() {
		l := parsed(t, s)
		// Rooms behind the ends of the arguments.
		values := append(make([]Value, 0, 4), Value{append([]rune("X"), 'q')[:1], append([]rune("xyx"), 'q')[:3]})
		l = append(l, snippet.Node{})[:len(l)]
		before, valuesBefore := copyOf(l), copyOf(values)
		text, f, _ := Lay(l, values)
		again, g, _ := Lay(l, values)
		if !reflect.DeepEqual(before, copyOf(l)) || !reflect.DeepEqual(valuesBefore, copyOf(values)) {
			t.Errorf("Lay(%q) has changed its arguments", s)
		}
		textBefore, fieldsBefore := slices.Clone(text), copyOf(f)
		spoil(reflect.ValueOf(again))
		spoil(reflect.ValueOf(g))
		if !slices.Equal(text, textBefore) || !reflect.DeepEqual(f, fieldsBefore) {
			t.Errorf("two calls of Lay(%q) share their results", s)
		}
		if !reflect.DeepEqual(before, copyOf(l)) || !reflect.DeepEqual(valuesBefore, copyOf(values)) {
			t.Errorf("Lay(%q) shares its results with its arguments", s)
		}
		spoil(reflect.ValueOf(values))
		spoil(reflect.ValueOf(l))
		if !slices.Equal(text, textBefore) || !reflect.DeepEqual(f, fieldsBefore) {
			t.Errorf("Lay(%q) has kept its arguments", s)
		}
	}
}

// No two lists of one answer share anything, not even beyond their ends, even
// if those of the argument do.
func TestListsOfOneAnswer(t *testing.T) {
	for _, s := range memorySnippets() {
		l := parsed(t, s)
		shared := append(append(slices.Clone(l), l...), l...)
		text, f, e := Lay(shared, pairs("X", "xyx"))
		if e != api.OK {
			t.Fatalf("Lay(%q): %d", s, e)
		}
		all := lists(text, f)
		for i, x := range all {
			before := copyOf(all)
			spoil(reflect.ValueOf(x))
			for j, y := range all {
				if j != i && !slices.Equal(y, before[j]) {
					t.Errorf("Lay(%q): lists %d and %d are shared", s, i, j)
				}
			}
			copy(x, before[i])
		}
		// The lists of choices too.
		for i, x := range f {
			before := copyOf(f)
			clear(x.Choices[:cap(x.Choices)])
			for j, y := range f {
				if j != i && !reflect.DeepEqual(y, before[j]) {
					t.Errorf("Lay(%q): choices %d and %d are shared", s, i, j)
				}
			}
			copy(x.Choices, before[i].Choices)
		}
	}
}

// What a field does not have is empty.
func TestZeroValues(t *testing.T) {
	_, f, _ := Lay(parsed(t, "$1${2:a}${3|b|}${4/a/b/gi}"), nil)
	for i, x := range f {
		if (len(x.Choices) == 0) != (i != 2) || x.Turn != (i == 3) || x.T.All != x.Turn || x.T.Fold != x.Turn || (len(x.T.Pattern) > 0) != x.Turn || (len(x.T.Format) > 0) != x.Turn {
			t.Errorf("field %d: %v", i, x)
		}
	}
	if len(f) != 5 {
		t.Errorf("fields: %v", f)
	}
}

// nil lists and empty ones are the same.
func TestEmptyLists(t *testing.T) {
	for _, empty := range [][]snippet.Node{nil, {}} {
		l := []snippet.Node{{Kind: snippet.Stop, N: 1, Name: []rune{}, Subs: empty, Choices: [][]rune{}}, {Kind: snippet.Stop, N: 1, Subs: []snippet.Node{{Kind: snippet.Text, Name: []rune("a")}}}}
		hold(t, l, nil, []rune("aa"), "1 0-1, 1* 1-2, 0* 2-2")
		hold(t, []snippet.Node{{Kind: snippet.Var, Name: []rune("E"), Subs: empty}}, []Value{{Name: []rune("E")}}, nil, "0* 0-0")
		hold(t, []snippet.Node{{Kind: snippet.Choice, N: 1, Choices: [][]rune{{}, nil}, Subs: empty}}, []Value{}, nil, "1* 0-0 |,|, 0* 0-0")
	}
}

// R4

func TestCallsDoNotDependOnOthers(t *testing.T) {
	for range 100 {
		holdSamples(t, pairs("X", "x"), sample{"${1:a$X}$1", "axax", "1* 0-2, 1 2-4, 0* 4-4"})
		holdError(t, "${1:$2}${2:$1}", pairs("X", "x"), api.ErrDeep)
		holdSamples(t, nil, sample{"${1:a$X}$1", "aa", "1* 0-1, 1 1-2, 0* 2-2"})
		holdError(t, strings.Repeat("$1", 60), nil, api.ErrFull)
		holdSamples(t, pairs("X", "y"), sample{"${1:${X:$2}}${2|b|}$1", "yby", "1* 0-1, 2* 1-2 |b|, 1 2-3, 0* 3-3"})
		holdError(t, "$X", named("X", 2001), api.ErrFull)
		holdSamples(t, nil, sample{"$1$2", "", "1* 0-0, 2* 0-0, 0* 0-0"})
	}
}
