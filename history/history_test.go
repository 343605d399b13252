package history

import (
	"math"
	"slices"
	"strings"
	"testing"

	"stylus/api"
)

// known is an entry that a ring should have.
type known struct {
	line  string
	count int
}

// ring returns a ring to which lines were added.
func ring(t *testing.T, lines ...string) *Ring {
	t.Helper()
	r := New()
	addAll(t, r, lines...)
	return r
}

func addAll(t *testing.T, r *Ring, lines ...string) {
	t.Helper()
	for _, line := range lines {
		holdAdd(t, r, []rune(line), api.OK)
	}
}

func holdAdd(t *testing.T, r *Ring, line []rune, want api.Errno) {
	t.Helper()
	if e := r.Add(line); e != want {
		t.Errorf("Add(%s): %d, want %d", short(line), e, want)
	}
}

// numbered returns lines that begin alike, and are different.
func numbered(from, to int) []string {
	var lines []string
	for i := from; i < to; i++ {
		lines = append(lines, "line "+string(rune(1000+i)))
	}
	return lines
}

// once returns entries with the count 1.
func once(lines ...string) []known {
	var l []known
	for _, line := range lines {
		l = append(l, known{line, 1})
	}
	return l
}

// holdRing holds that a ring has these entries, and no others.
func holdRing(t *testing.T, r *Ring, want ...known) {
	t.Helper()
	if n := r.Len(); n != len(want) {
		t.Errorf("Len: %d, want %d", n, len(want))
	}
	for i, k := range want {
		line, count, e := r.Line(i)
		if string(line) != k.line || count != k.count || e != api.OK {
			t.Errorf("Line(%d): %s, %d, %d, want %s, %d, 0", i, short(line), count, e, short([]rune(k.line)), k.count)
		}
	}
	n := len(want)
	for _, i := range []int{-1, -2, -n, -n - 1, n, n + 1, 29, 30, 31, 2 * n, 256 - n, 256, math.MinInt, math.MinInt + 1, math.MinInt32, math.MaxInt32, math.MaxInt - 1, math.MaxInt} {
		if i < 0 || i >= n {
			holdNoLine(t, r, i)
		}
	}
}

func holdNoLine(t *testing.T, r *Ring, i int) {
	t.Helper()
	if line, count, e := r.Line(i); line != nil || count != 0 || e != api.ErrNone {
		t.Errorf("Line(%d): %v, %d, %d, want nil, 0, 4", i, line, count, e)
	}
}

// P19.1: New

func TestNewHasNoEntries(t *testing.T) {
	if New() == nil {
		t.Fatal("New: nil")
	}
	holdRing(t, New())
	if _, is := New().Search(nil, true, -1, false); is {
		t.Error("Search: true")
	}
	if l := New().Best(nil); len(l) != 0 {
		t.Errorf("Best: %v", l)
	}
}

// P19.1: which lines Add permits

func TestEmptyLine(t *testing.T) {
	r := New()
	for i, line := range [][]rune{nil, {}, nil, make([]rune, 0, 5), {}} {
		holdAdd(t, r, line, api.OK)
		holdRing(t, r, known{"", i + 1})
	}
	addAll(t, r, "a", "b")
	holdRing(t, r, known{"", 5}, known{"a", 1}, known{"b", 1})
	addAll(t, r, "")
	holdRing(t, r, known{"a", 1}, known{"b", 1}, known{"", 6})
	addAll(t, r, "a")
	holdRing(t, r, known{"b", 1}, known{"", 6}, known{"a", 2})
	addAll(t, r, numbered(0, 29)...)
	holdRing(t, r, append([]known{{"a", 2}}, once(numbered(0, 29)...)...)...)
	addAll(t, r, "")
	holdRing(t, r, append(once(numbered(0, 29)...), known{"", 1})...)
}

func TestLengthsOfLines(t *testing.T) {
	for _, n := range []int{0, 1, 2, 29, 30, 31, 60, 61, 255, 256, 400, 401, 1000, 1999, 2000, 2001, 2002, 4000, 65536, 1000000} {
		for _, letter := range []string{"a", "é", "\u20AC", "\U0010FFFF", "\x00", "\uFFFD"} {
			r := ring(t, "b")
			line := strings.Repeat(letter, n)
			if n > 2000 {
				holdAdd(t, r, []rune(line), api.ErrFull)
				holdRing(t, r, known{"b", 1})
				continue
			}
			addAll(t, r, line)
			holdRing(t, r, known{"b", 1}, known{line, 1})
			addAll(t, r, "b", line)
			holdRing(t, r, known{"b", 2}, known{line, 2})
		}
	}
}

// borders has runes at the borders of what is valid.
var borders = []struct {
	r     rune
	valid bool
}{
	{math.MinInt32, false}, {math.MinInt32 + 1, false}, {-0x10FFFF, false}, {-65533, false}, {-2, false}, {-1, false},
	{0, true}, {1, true}, {10, true}, {27, true}, {127, true}, {128, true}, {255, true}, {256, true},
	{55295, true}, {55296, false}, {55297, false}, {56319, false}, {56320, false}, {57342, false}, {57343, false}, {57344, true},
	{65532, true}, {65533, true}, {65534, true}, {65535, true}, {65536, true},
	{1114110, true}, {1114111, true}, {1114112, false}, {1114113, false}, {0x20FFFD, false},
	{math.MaxInt32 - 1, false}, {math.MaxInt32, false},
}

// eachPlace calls f with lines in which r is at one place.
func eachPlace(r rune, lengths []int, f func(line []rune)) {
	for _, n := range lengths {
		for _, at := range []int{0, 1, n / 2, n - 2, n - 1} {
			if at < 0 || at >= n {
				continue
			}
			line := slices.Repeat([]rune{'a'}, n)
			line[at] = r
			f(line)
		}
	}
}

func TestRunesOfLines(t *testing.T) {
	for _, c := range borders {
		eachPlace(c.r, []int{1, 2, 3, 7, 1999, 2000}, func(line []rune) {
			r := ring(t, "b", "c")
			if !c.valid {
				holdAdd(t, r, line, api.ErrArg)
				holdRing(t, r, once("b", "c")...)
				return
			}
			holdAdd(t, r, line, api.OK)
			holdRing(t, r, once("b", "c", string(line))...)
			holdAdd(t, r, line, api.OK)
			holdRing(t, r, known{"b", 1}, known{"c", 1}, known{string(line), 2})
		})
	}
}

func TestEachRune(t *testing.T) {
	r := New()
	for x := rune(-300); x < 0x110300; x++ {
		want := api.ErrArg
		if wordsValid(x) {
			want = api.OK
		}
		holdAdd(t, r, []rune{x}, want)
		if line, _, _ := r.Line(r.Len() - 1); want == api.OK && !slices.Equal(line, []rune{x}) {
			t.Errorf("Line: %v, want %d", line, x)
		}
	}
	for i := range 30 {
		if line, _, _ := r.Line(i); !slices.Equal(line, []rune{0x10FFFF - 29 + rune(i)}) {
			t.Errorf("Line(%d): %v", i, line)
		}
	}
}

// A line that is too long and has a rune that is not valid.
func TestBothErrors(t *testing.T) {
	for _, c := range borders {
		want := api.ErrArg
		if c.valid {
			want = api.ErrFull
		}
		eachPlace(c.r, []int{2001, 2002, 4000}, func(line []rune) {
			r := ring(t, "b", "c")
			holdAdd(t, r, line, want)
			holdRing(t, r, once("b", "c")...)
		})
		for _, at := range []int{1998, 1999, 2000, 2001, 2999} {
			line := slices.Repeat([]rune{'a'}, 3000)
			line[at] = c.r
			holdAdd(t, New(), line, want)
		}
	}
}

func TestAnErrorLeavesTheRing(t *testing.T) {
	for _, n := range []int{0, 1, 2, 29, 30} {
		r := ring(t, numbered(0, n)...)
		addAll(t, r, numbered(0, n)...)
		var want []known
		for _, line := range numbered(0, n) {
			want = append(want, known{line, 2})
		}
		for _, c := range []struct {
			line []rune
			e    api.Errno
		}{
			{[]rune{-1}, api.ErrArg}, {[]rune{'a', 0xD800}, api.ErrArg}, {[]rune{0x110000, 'a'}, api.ErrArg},
			{make([]rune, 2001), api.ErrFull}, {append(make([]rune, 2001), -1), api.ErrArg}, {append([]rune("line "), 999, -1), api.ErrArg},
			{append([]rune(numbered(0, 1)[0]), -1), api.ErrArg}, {append([]rune(numbered(0, 1)[0]), make([]rune, 2000)...), api.ErrFull},
		} {
			holdAdd(t, r, c.line, c.e)
			holdRing(t, r, want...)
		}
	}
}

// P19.1: what Add does

func TestAddAppends(t *testing.T) {
	r := New()
	for n := range 30 {
		holdRing(t, r, once(numbered(0, n)...)...)
		addAll(t, r, numbered(n, n+1)...)
	}
	holdRing(t, r, once(numbered(0, 30)...)...)
}

func TestAddAgainMoves(t *testing.T) {
	for n := 1; n <= 30; n++ {
		for at := range n {
			r := ring(t, numbered(0, n)...)
			lines := numbered(0, n)
			again := lines[at]
			others := once(slices.Delete(lines, at, at+1)...)
			for count := 2; count < 6; count++ {
				addAll(t, r, again)
				holdRing(t, r, append(slices.Clone(others), known{again, count})...)
			}
		}
	}
}

// The counts go with their lines.
func TestAddAgainKeepsTheCounts(t *testing.T) {
	r := ring(t, "a", "a", "a", "a", "b", "c", "c")
	holdRing(t, r, known{"a", 4}, known{"b", 1}, known{"c", 2})
	addAll(t, r, "b")
	holdRing(t, r, known{"a", 4}, known{"c", 2}, known{"b", 2})
	addAll(t, r, "a")
	holdRing(t, r, known{"c", 2}, known{"b", 2}, known{"a", 5})
	addAll(t, r, "a")
	holdRing(t, r, known{"c", 2}, known{"b", 2}, known{"a", 6})
	addAll(t, r, "d")
	holdRing(t, r, known{"c", 2}, known{"b", 2}, known{"a", 6}, known{"d", 1})
	addAll(t, r, "b")
	holdRing(t, r, known{"c", 2}, known{"a", 6}, known{"d", 1}, known{"b", 3})
	addAll(t, r, "c", "d", "a", "b")
	holdRing(t, r, known{"c", 3}, known{"d", 2}, known{"a", 7}, known{"b", 4})
}

func TestExampleOfTheChapter(t *testing.T) {
	holdRing(t, ring(t, "ab", "cd", "ab"), known{"cd", 1}, known{"ab", 2})
}

func TestLinesThatAreAlmostTheSame(t *testing.T) {
	long := strings.Repeat("a", 1999)
	for _, lines := range [][]string{
		{"abc", "abd"}, {"abc", "abC"}, {"abc", "Abc"}, {"abc", "ABC"}, {"a", "A"}, {"é", "É"}, {"é", "e\u0301"}, {"k", "\u212A"},
		{"abc", "ab"}, {"ab", "abc"}, {"", "a"}, {"a", ""}, {"a", "a "}, {"a", " a"}, {"a", "a\n"}, {"a", "a\x00"}, {"", "\x00"}, {"\x00", "\x00\x00"},
		{"abc", "bc"}, {"abc", "cab"}, {"ab", "ba"}, {"aab", "aba"}, {"\uFFFD", "\uFFFC"}, {"\uFFFD", "\uFFFD\uFFFD"}, {"a\u0161", "aa"}, {"\U00010061", "a"},
		{long, long + "a"}, {long + "a", long + "b"}, {"b" + long, "a" + long}, {long, long[1:]},
	} {
		a, b := lines[0], lines[1]
		r := ring(t, a, b)
		holdRing(t, r, once(a, b)...)
		addAll(t, r, a)
		holdRing(t, r, known{b, 1}, known{a, 2})
		addAll(t, r, b, b)
		holdRing(t, r, known{a, 2}, known{b, 3})
	}
}

func TestTheOldestIsDropped(t *testing.T) {
	for _, n := range []int{29, 30, 31, 32, 45, 59, 60, 61, 100, 1000} {
		r := ring(t, numbered(0, n)...)
		holdRing(t, r, once(numbered(max(0, n-30), n)...)...)
	}
}

func TestDroppedOneByOne(t *testing.T) {
	r := ring(t, "a", "a", "b", "c", "c", "c")
	addAll(t, r, numbered(0, 27)...)
	holdRing(t, r, append([]known{{"a", 2}, {"b", 1}, {"c", 3}}, once(numbered(0, 27)...)...)...)
	addAll(t, r, numbered(27, 28)...)
	holdRing(t, r, append([]known{{"b", 1}, {"c", 3}}, once(numbered(0, 28)...)...)...)
	addAll(t, r, numbered(28, 29)...)
	holdRing(t, r, append([]known{{"c", 3}}, once(numbered(0, 29)...)...)...)
	addAll(t, r, numbered(29, 30)...)
	holdRing(t, r, once(numbered(0, 30)...)...)
}

func TestAddAgainToAFullRingDropsNone(t *testing.T) {
	for at := range 30 {
		lines := numbered(0, 30)
		again := lines[at]
		others := once(slices.Delete(lines, at, at+1)...)
		r := ring(t, numbered(0, 30)...)
		for count := 2; count < 40; count++ {
			addAll(t, r, again)
			holdRing(t, r, append(slices.Clone(others), known{again, count})...)
		}
		// The next new one drops what is the oldest one now.
		addAll(t, r, "new")
		holdRing(t, r, append(slices.Clone(others[1:]), known{again, 39}, known{"new", 1})...)
	}
}

func TestDroppedLinesStartAnew(t *testing.T) {
	r := ring(t, "a", "a", "a")
	addAll(t, r, numbered(0, 29)...)
	holdRing(t, r, append([]known{{"a", 3}}, once(numbered(0, 29)...)...)...)
	addAll(t, r, numbered(29, 30)...)
	holdRing(t, r, once(numbered(0, 30)...)...)
	addAll(t, r, "a")
	holdRing(t, r, append(once(numbered(1, 30)...), known{"a", 1})...)
	addAll(t, r, "a")
	holdRing(t, r, append(once(numbered(1, 30)...), known{"a", 2})...)
}

func TestTheSameLineManyTimes(t *testing.T) {
	r := New()
	for i := range 300000 {
		if e := r.Add([]rune("ab")); e != api.OK {
			t.Fatalf("Add: %d", e)
		}
		if line, n, e := r.Line(0); string(line) != "ab" || n != i+1 || e != api.OK {
			t.Fatalf("Line: %q, %d, %d, want %d", string(line), n, e, i+1)
		}
	}
	holdRing(t, r, known{"ab", 300000})
	addAll(t, r, "cd")
	for range 70000 {
		addAll(t, r, "ab", "cd")
	}
	holdRing(t, r, known{"ab", 370000}, known{"cd", 70001})
}

// P19.1: a nil ring

func TestNilRing(t *testing.T) {
	var r *Ring
	for _, line := range []string{"", "a", strings.Repeat("a", 2000), strings.Repeat("a", 2001), "\uFFFD"} {
		holdAdd(t, r, []rune(line), api.ErrFull)
	}
	holdAdd(t, r, nil, api.ErrFull)
	for _, c := range borders {
		want := api.ErrArg
		if c.valid {
			want = api.ErrFull
		}
		eachPlace(c.r, []int{1, 2, 3, 2000, 2001}, func(line []rune) { holdAdd(t, r, line, want) })
	}
	holdRing(t, r)
	for _, text := range [][]rune{nil, {}, []rune("a"), {-1}} {
		for _, from := range []int{math.MinInt, -1, 0, 1, math.MaxInt} {
			holdSearchRunes(t, r, text, false, from, false, -1)
			holdSearchRunes(t, r, text, true, from, false, -1)
			holdSearchRunes(t, r, text, false, from, true, -1)
			holdSearchRunes(t, r, text, true, from, true, -1)
		}
		if l := r.Best(text); len(l) != 0 {
			t.Errorf("Best: %v", l)
		}
	}
}

// P19.3

func TestTheLastOneWasAddedLast(t *testing.T) {
	l := lot(3)
	r := New()
	lines := append(numbered(0, 40), "", "a", "A")
	for range 3000 {
		line := lines[l.draw(len(lines))]
		addAll(t, r, line)
		if l.draw(4) == 0 {
			r.Add([]rune{-1})
			r.Add(make([]rune, 2001))
		}
		seen := map[string]bool{}
		for i := range r.Len() {
			last, _, _ := r.Line(i)
			if seen[string(last)] {
				t.Errorf("twice: %q", string(last))
			}
			seen[string(last)] = true
			if is := string(last) == line; is != (i == r.Len()-1) {
				t.Errorf("Line(%d): %q, added %q", i, string(last), line)
			}
		}
	}
}
