package history

import (
	"math"
	"slices"
	"strings"
	"testing"

	"stylus/api"
)

var anyNumbers = []int{math.MinInt, math.MinInt + 1, math.MinInt32, -256, -31, -30, -2, -1, 0, 1, 2, 15, 28, 29, 30, 31, 255, 256, 1999, 2000, 2001, math.MaxInt32, math.MaxInt - 1, math.MaxInt}

// R1

func TestAnyRunes(t *testing.T) {
	p := newPair(t)
	for _, c := range borders {
		for _, d := range borders {
			p.add([]rune{c.r, d.r})
			p.add([]rune{d.r})
			p.add([]rune{'a', d.r, c.r, 'a'})
			p.holdEntries()
			for _, text := range [][]rune{{c.r}, {d.r}, {c.r, d.r}, {d.r, c.r}, {'a', c.r}} {
				p.search(text, false, -1, false)
				p.search(text, true, 30, true)
				p.best(text)
			}
		}
	}
}

func TestAnyNumbers(t *testing.T) {
	for _, n := range []int{0, 1, 2, 29, 30, 31} {
		p := newPair(t)
		for _, line := range numbered(0, n) {
			p.add([]rune(line))
		}
		for _, i := range anyNumbers {
			for more := -32; more <= 32; more++ {
				at := i + more // wraps round
				line, count, e := p.r.Line(at)
				if at < 0 || at >= min(n, 30) {
					holdNoLine(t, p.r, at)
				} else if !slices.Equal(line, p.w.list[at].line) || count != 1 || e != api.OK {
					t.Errorf("Line(%d): %v, %d, %d", at, line, count, e)
				}
				for _, text := range []string{"", "line", "e ", "x"} {
					for _, part := range []bool{false, true} {
						p.search([]rune(text), part, at, false)
						p.search([]rune(text), part, at, true)
					}
				}
			}
		}
	}
}

func TestNilLists(t *testing.T) {
	for _, n := range []int{0, 1, 30} {
		a, b := ring(t, numbered(0, n)...), ring(t, numbered(0, n)...)
		for range 3 {
			for _, from := range anyNumbers {
				for _, part := range []bool{false, true} {
					for _, back := range []bool{false, true} {
						i, is := a.Search(nil, part, from, back)
						k, may := b.Search([]rune{}, part, from, back)
						if i != k || is != may {
							t.Errorf("Search(%t, %d, %t): %d, %t, and %d, %t", part, from, back, i, is, k, may)
						}
					}
				}
			}
			if l, m := a.Best(nil), b.Best([]rune{}); !slices.Equal(l, m) {
				t.Errorf("Best: %v and %v", l, m)
			}
			holdAdd(t, a, nil, api.OK)
			holdAdd(t, b, []rune{}, api.OK)
			for i := range a.Len() {
				line, count, _ := a.Line(i)
				other, also, _ := b.Line(i)
				if !slices.Equal(line, other) || count != also {
					t.Errorf("Line(%d): %v, %d, and %v, %d", i, line, count, other, also)
				}
			}
		}
	}
}

func TestLongArguments(t *testing.T) {
	const n = 3000000
	r := ring(t, "a", "ab", strings.Repeat("a", 2000))
	for _, c := range []struct {
		long []rune
		want api.Errno
	}{
		{slices.Repeat([]rune{'a'}, n), api.ErrFull},
		{slices.Repeat([]rune{-1}, n), api.ErrArg},
		{append(slices.Repeat([]rune{'a'}, n), 0xDFFF), api.ErrArg},
		{append(slices.Repeat([]rune{'a', 'b'}, n), 0xE000), api.ErrFull},
	} {
		holdAdd(t, r, c.long, c.want)
		holdMatching(t, r, c.long, false)
		holdMatching(t, r, c.long, true)
		holdBestRunes(t, r, c.long)
		holdRing(t, r, once("a", "ab", strings.Repeat("a", 2000))...)
	}
}

// R2

func TestErrorsChangeNothing(t *testing.T) {
	l := lot(9)
	for range 100 {
		p := newPair(t)
		for range l.draw(60) {
			p.add(l.text([]rune("abc"), 4))
			for _, line := range [][]rune{{-1}, make([]rune, 2001), append(make([]rune, 2001), 0xD800), append(l.text([]rune("abc"), 4), 0x110000)} {
				if p.r.Add(line) == api.OK {
					t.Errorf("Add(%s): 0", short(line))
				}
				p.holdEntries()
			}
			p.ask(l.text([]rune("abc"), 2))
		}
	}
}

// R3

// roomy returns runes with room behind their end, and all of that memory.
func roomy(s string) (l, all []rune) {
	all = append([]rune(s), 'R', 'O', 'O', 'M')
	return all[:len(all)-4], all
}

// holdSpoilt holds that memory is as it was, and spoils it.
func holdSpoilt(t *testing.T, all []rune, s string) {
	t.Helper()
	if string(all) != s+"ROOM" {
		t.Errorf("%q: changed to %q", s, string(all))
	}
	spoil(all)
}

// spoil writes over all memory of a list.
func spoil[T int | rune](l []T) {
	l = l[:cap(l)]
	for i := range l {
		l[i] = 'z'
	}
}

func TestLinesStayAndAreNotKept(t *testing.T) {
	r := New()
	var want []known
	for _, s := range []string{"ab", "", "b", "a", "abc", strings.Repeat("a", 2000)} {
		for count := 1; count < 4; count++ {
			line, all := roomy(s)
			holdAdd(t, r, line, api.OK)
			holdSpoilt(t, all, s)
			holdRing(t, r, append(slices.Clone(want), known{s, count})...)
		}
		want = append(want, known{s, 3})
	}
	// One that is moved, and one that is there when another one is dropped.
	line, all := roomy("b")
	holdAdd(t, r, line, api.OK)
	holdSpoilt(t, all, "b")
	want = append(slices.Delete(want, 2, 3), known{"b", 4})
	holdRing(t, r, want...)
	for _, s := range numbered(0, 26) {
		line, all := roomy(s)
		holdAdd(t, r, line, api.OK)
		holdSpoilt(t, all, s)
	}
	holdRing(t, r, append(want[2:], once(numbered(0, 26)...)...)...)
}

func TestLinesWithErrorsStay(t *testing.T) {
	r := ring(t, "a")
	for _, c := range []struct {
		line []rune
		want api.Errno
	}{
		{[]rune{'a', -1, 'b'}, api.ErrArg}, {make([]rune, 2001), api.ErrFull}, {append(make([]rune, 3000), -1), api.ErrArg},
	} {
		all := append(slices.Clone(c.line), 'R', -5)
		holdAdd(t, r, all[:len(c.line)], c.want)
		if !slices.Equal(all, append(slices.Clone(c.line), 'R', -5)) {
			t.Errorf("changed to %s", short(all))
		}
		spoil(all)
		holdRing(t, r, known{"a", 1})
	}
}

func TestTextsStayAndAreNotKept(t *testing.T) {
	r := ring(t, "ab", "b", "", "cab", "b")
	for _, s := range []string{"", "a", "ab", "b", "cab", "x", strings.Repeat("x", 3000)} {
		for _, part := range []bool{false, true} {
			for _, back := range []bool{false, true} {
				text, all := roomy(s)
				r.Search(text, part, 2, back)
				holdSpoilt(t, all, s)
			}
		}
		text, all := roomy(s)
		best := r.Best(text)
		want := slices.Clone(best)
		holdSpoilt(t, all, s)
		if !slices.Equal(best, want) {
			t.Errorf("Best(%q) became %v, want %v", s, best, want)
		}
		holdRing(t, r, known{"ab", 1}, known{"", 1}, known{"cab", 1}, known{"b", 2})
	}
}

// What is behind the end of a line or a text is not looked at.
func TestRoomDoesNotCount(t *testing.T) {
	r := New()
	all := []rune{'a', 'b', -1, 'c'}
	holdAdd(t, r, all[:2], api.OK)
	holdAdd(t, r, all[:1], api.OK)
	holdAdd(t, r, all[:0], api.OK)
	holdRing(t, r, once("ab", "a", "")...)
	holdAdd(t, r, all[:3], api.ErrArg)
	long := append(make([]rune, 2000), -1)
	holdAdd(t, r, long[:2000], api.OK)
	holdMatching(t, r, all[:1], false, 0, 1)
	holdMatching(t, r, all[1:2], true, 0)
	holdBestRunes(t, r, all[:2], 0)
	holdBestRunes(t, r, all[:1], 1, 0)
}

func TestLineIsNewMemory(t *testing.T) {
	r := ring(t, "ab", "", "c", "def", "ab")
	want := []known{{"", 1}, {"c", 1}, {"def", 1}, {"ab", 2}}
	for i, k := range want {
		one, _, _ := r.Line(i)
		two, _, _ := r.Line(i)
		spoil(one)
		one = append(one, 'y', 'y', 'y')
		if string(two) != k.line {
			t.Errorf("Line(%d): became %q", i, string(two))
		}
		two = append(two, 'w')
		if one[len(one)-1] != 'y' || one[len(k.line)] != 'y' {
			t.Errorf("Line(%d): shares the room behind its end", i)
		}
		holdRing(t, r, want...)
		holdSearch(t, r, k.line, false, i-1, false, i)
		holdBest(t, r, "zz")
	}
	// What was returned stays, too, whatever becomes of its entry.
	var lines [][]rune
	for i := range want {
		line, _, _ := r.Line(i)
		lines = append(lines, line)
	}
	addAll(t, r, "c", "def")
	addAll(t, r, numbered(0, 40)...)
	for i, k := range want {
		if string(lines[i]) != k.line {
			t.Errorf("Line(%d): became %q", i, string(lines[i]))
		}
	}
}

// A line that was returned may be changed and handed in again.
func TestLineIsHandedInAgain(t *testing.T) {
	r := ring(t, "ab", "c")
	longer, _, _ := r.Line(0)
	longer = append(longer, 'x')
	holdAdd(t, r, longer, api.OK)
	spoil(longer)
	holdRing(t, r, once("ab", "c", "abx")...)
	line, _, _ := r.Line(0)
	holdAdd(t, r, line, api.OK)
	spoil(line)
	holdRing(t, r, known{"c", 1}, known{"abx", 1}, known{"ab", 2})
}

func TestBestIsNewMemory(t *testing.T) {
	r := ring(t, "ab", "", "a", "xa", "b")
	for _, c := range []struct {
		text string
		want []int
	}{
		{"a", []int{2, 0, 3}}, {"", []int{0, 1, 2, 3, 4}}, {"x", []int{3}}, {"z", nil},
	} {
		one, two := r.Best([]rune(c.text)), r.Best([]rune(c.text))
		spoil(one)
		one = append(one, -7)
		two = append(two, -8)
		if !slices.Equal(two[:len(two)-1], c.want) || one[len(one)-1] != -7 {
			t.Errorf("Best(%q): shares memory", c.text)
		}
		spoil(two)
		holdBest(t, r, c.text, c.want...)
		holdRing(t, r, once("ab", "", "a", "xa", "b")...)
	}
}

// R4

func TestTwoRingsHaveNothingInCommon(t *testing.T) {
	a, b := ring(t, "a", "b", "c"), ring(t, "b", "a")
	addAll(t, a, "a", "d")
	holdRing(t, b, once("b", "a")...)
	addAll(t, b, "c", "b")
	holdRing(t, a, known{"b", 1}, known{"c", 1}, known{"a", 2}, known{"d", 1})
	holdRing(t, b, known{"a", 1}, known{"c", 1}, known{"b", 2})
	addAll(t, a, numbered(0, 30)...)
	holdRing(t, a, once(numbered(0, 30)...)...)
	holdRing(t, b, known{"a", 1}, known{"c", 1}, known{"b", 2})
	holdRing(t, New())
	holdBest(t, b, "", 2, 0, 1)
	holdBest(t, a, "a")
	holdMatching(t, b, []rune("a"), false, 0)
	holdMatching(t, a, []rune("a"), false)
}

type answers struct {
	e         api.Errno
	line      string
	n, count  int
	place     int
	is        bool
	best, all []int
}

// answersOf does drawn things with a ring.
func answersOf(seed lot, between func()) []answers {
	r := New()
	var all []answers
	for range 150 {
		a := answers{e: r.Add(seed.text([]rune{'a', 'b', -1, 0xFFFD}, 4)), n: r.Len()}
		line, count, _ := r.Line(seed.draw(30))
		a.line, a.count = string(line), count
		a.place, a.is = r.Search(seed.text([]rune("ab"), 2), seed.draw(2) == 0, seed.draw(32)-1, seed.draw(2) == 0)
		a.best, a.all = r.Best(seed.text([]rune("ab"), 2)), r.Best(nil)
		all = append(all, a)
		between()
	}
	return all
}

// The same calls give the same again, whatever else is done in between.
func TestSameCallsGiveTheSame(t *testing.T) {
	for seed := range lot(40) {
		first := answersOf(seed, func() {})
		other, l := New(), seed
		second := answersOf(seed, func() {
			other.Add(l.text([]rune("ab"), 5))
			other.Best(l.text([]rune("ab"), 2))
			other.Search(l.text([]rune("ab"), 2), true, -1, false)
			New().Add([]rune("ab"))
		})
		for i, a := range first {
			b := second[i]
			if a.e != b.e || a.line != b.line || a.n != b.n || a.count != b.count || a.place != b.place || a.is != b.is || !slices.Equal(a.best, b.best) || !slices.Equal(a.all, b.all) {
				t.Fatalf("%d, %d: %v, then %v", seed, i, a, b)
			}
		}
	}
}

// What is asked changes nothing.
func TestAskingChangesNothing(t *testing.T) {
	p := newPair(t)
	l := lot(77)
	for range 300 {
		p.add(l.text([]rune("ab"), 5))
		for range 3 {
			p.ask(l.text([]rune("ab"), 2))
			p.holdEntries()
		}
	}
}
