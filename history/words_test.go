package history

import (
	"fmt"
	"math/big"
	"slices"
	"testing"

	"stylus/api"
	"stylus/score"
)

// The chapter's words, one by one, on a list of lines with their counts.

type counted struct {
	line  []rune
	count int
}

type words struct {
	list []counted
}

func wordsValid(r rune) bool {
	return r >= 0 && r <= 0x10FFFF && (r < 0xD800 || r > 0xDFFF)
}

func (w *words) add(line []rune) api.Errno {
	for _, r := range line {
		if !wordsValid(r) {
			return api.ErrArg
		}
	}
	if len(line) > 2000 {
		return api.ErrFull
	}
	added := counted{slices.Clone(line), 1}
	var list []counted
	for _, c := range w.list {
		if slices.Equal(c.line, line) {
			added.count += c.count
		} else {
			list = append(list, c)
		}
	}
	list = append(list, added)
	if len(list) == 31 {
		list = list[1:]
	}
	w.list = list
	return api.OK
}

func wordsBegins(line, t []rune) bool {
	for i, r := range t {
		if i == len(line) || line[i] != r {
			return false
		}
	}
	return true
}

func wordsMatches(line, t []rune, part bool) bool {
	if wordsBegins(line, t) {
		return true
	}
	return part && len(line) > 0 && wordsMatches(line[1:], t, true)
}

func (w *words) search(t []rune, part bool, from int, back bool) (int, bool) {
	var below, above []int
	for i, c := range w.list {
		if !wordsMatches(c.line, t, part) {
			continue
		}
		if i < from {
			below = append(below, i)
		}
		if i > from {
			above = append(above, i)
		}
	}
	if back && len(below) > 0 {
		return slices.Max(below), true
	}
	if !back && len(above) > 0 {
		return slices.Min(above), true
	}
	return 0, false
}

// value rounds once: what is added is exact.
func (c counted) value(t []rune) (float64, bool) {
	mark := score.Mark(t, c.line)
	if mark != mark {
		return 0, false
	}
	sum := big.NewRat(int64(c.count), 4)
	value, _ := sum.Add(sum, new(big.Rat).SetFloat64(mark)).Float64()
	return value, true
}

func (w *words) best(t []rune) []int {
	values := map[int]float64{}
	for i, c := range w.list {
		if value, is := c.value(t); is {
			values[i] = value
		}
	}
	var places []int
	for len(values) > 0 {
		best := -1
		for i := range w.list {
			if value, is := values[i]; is && (best < 0 || value > values[best]) {
				best = i
			}
		}
		places = append(places, best)
		delete(values, best)
	}
	return places
}

// pair is a ring, and the words about it.
type pair struct {
	t *testing.T
	r *Ring
	w words
}

func newPair(t *testing.T) *pair {
	return &pair{t: t, r: New()}
}

// short writes runes, not too many of them.
func short(l []rune) string {
	if len(l) > 40 {
		return fmt.Sprintf("%v .. (%d)", l[:40], len(l))
	}
	return fmt.Sprint(l)
}

func (p *pair) hold(same bool, format string, a ...any) {
	if !same {
		p.t.Helper()
		list := ""
		for _, c := range p.w.list {
			list += fmt.Sprintf(" %s*%d", short(c.line), c.count)
		}
		p.t.Errorf("with%s: %s", list, fmt.Sprintf(format, a...))
	}
}

func (p *pair) add(line []rune) {
	p.t.Helper()
	e, want := p.r.Add(line), p.w.add(line)
	p.hold(e == want, "Add(%s): %d, want %d", short(line), e, want)
}

// holdEntries holds all entries, and that there are no others; and P19.3.
func (p *pair) holdEntries() {
	p.t.Helper()
	n := p.r.Len()
	p.hold(n == len(p.w.list), "Len: %d", n)
	var lines [][]rune
	for i, c := range p.w.list {
		line, count, e := p.r.Line(i)
		p.hold(slices.Equal(line, c.line) && count == c.count && e == api.OK, "Line(%d): %s, %d, %d", i, short(line), count, e)
		for k, other := range lines {
			p.hold(!slices.Equal(line, other), "%d and %d have the same line", k, i)
		}
		lines = append(lines, line)
	}
	for _, i := range []int{-1, len(p.w.list)} {
		line, count, e := p.r.Line(i)
		p.hold(line == nil && count == 0 && e == api.ErrNone, "Line(%d): %v, %d, %d", i, line, count, e)
	}
}

func (p *pair) search(t []rune, part bool, from int, back bool) {
	p.t.Helper()
	i, is := p.r.Search(t, part, from, back)
	want, may := p.w.search(t, part, from, back)
	p.hold(i == want && is == may, "Search(%s, %t, %d, %t): %d, %t, want %d, %t", short(t), part, from, back, i, is, want, may)
}

// searchAll searches from all places, and those next to them.
func (p *pair) searchAll(t []rune) {
	p.t.Helper()
	for from := -2; from < len(p.w.list)+2; from++ {
		for _, part := range []bool{false, true} {
			p.search(t, part, from, false)
			p.search(t, part, from, true)
		}
	}
}

func (p *pair) best(t []rune) {
	p.t.Helper()
	l, want := p.r.Best(t), p.w.best(t)
	p.hold(slices.Equal(l, want), "Best(%s): %v, want %v", short(t), l, want)
}

// ask holds all answers about a text.
func (p *pair) ask(t []rune) {
	p.t.Helper()
	p.searchAll(t)
	p.best(t)
}

// texts returns all texts of up to n of some runes.
func texts(runes []rune, n int) [][]rune {
	all := [][]rune{{}}
	for begin := 0; n > 0; n-- {
		end := len(all)
		for _, text := range all[begin:end] {
			for _, r := range runes {
				all = append(all, append(slices.Clone(text), r))
			}
		}
		begin = end
	}
	return all
}

// lot draws numbers, the same ones in each run.
type lot uint64

func (l *lot) draw(n int) int {
	*l = *l*6364136223846793005 + 1442695040888963407
	return int(uint64(*l) >> 33 % uint64(n))
}

func (l *lot) text(runes []rune, n int) []rune {
	text := make([]rune, l.draw(n+1))
	for i := range text {
		text[i] = runes[l.draw(len(runes))]
	}
	return text
}

// sequences calls f with all sequences of n numbers below some one.
func sequences(below, n int, f func(l []int)) {
	l := make([]int, n)
	var fill func(at int)
	fill = func(at int) {
		if at == n {
			f(l)
			return
		}
		for l[at] = 0; l[at] < below; l[at]++ {
			fill(at + 1)
		}
	}
	fill(0)
}

// All sequences of up to four of the lines of up to two runes, each asked about all
// texts of up to three.
func TestAllSmallRings(t *testing.T) {
	for _, runes := range [][]rune{{'a', 'b'}, {'a', 'A'}, {0, 0xFFFD}} {
		t.Run(fmt.Sprint(runes), func(t *testing.T) {
			t.Parallel()
			lines, asked := texts(runes, 2), texts(runes, 3)
			for n := range 5 {
				sequences(len(lines), n, func(l []int) {
					p := newPair(t)
					for _, i := range l {
						p.add(lines[i])
					}
					p.holdEntries()
					for _, text := range asked {
						p.ask(text)
					}
				})
			}
		})
	}
}

// One line and one text, and all pairs of lines, that are longer.
func TestAllLinesAndTexts(t *testing.T) {
	lines, asked := texts([]rune("ab"), 6), texts([]rune("ab"), 7)
	for _, line := range lines {
		p := newPair(t)
		p.add(line)
		for _, text := range asked {
			p.ask(text)
		}
	}
	lines, asked = texts([]rune{'a', 0xFFFD}, 4), texts([]rune{'a', 0xFFFD, -1}, 3)
	for i := range lines {
		for k := range lines {
			p := newPair(t)
			p.add(lines[i])
			p.add(lines[k])
			for _, text := range asked {
				p.ask(text)
			}
		}
	}
}

// All sequences of three Adds in rings that are nearly full, full, or have dropped
// entries already.
func TestAllSequencesInFullRings(t *testing.T) {
	steps := [][]rune{{}, {1, 'a'}, {2, 'a'}, {15, 'a'}, {29, 'a'}, {30, 'a'}, {'n'}, {'n', 'n'}, {-1}, make([]rune, 2001)}
	for full := 27; full <= 33; full++ {
		t.Run(fmt.Sprint(full), func(t *testing.T) {
			t.Parallel()
			sequences(len(steps), 3, func(l []int) {
				p := newPair(t)
				for i := range full {
					p.add([]rune{rune(i + 1), 'a'})
				}
				for _, i := range l {
					p.add(steps[i])
				}
				p.holdEntries()
				p.search([]rune{'n'}, false, 30, true)
				p.search([]rune{'a'}, true, 27, false)
				p.best([]rune{'a'})
				p.best(nil)
			})
		})
	}
}

// Many Adds one behind the other, most of them in rings that are full.
func TestDrawnSequences(t *testing.T) {
	for seed := range 16 {
		t.Run(fmt.Sprint(seed), func(t *testing.T) {
			t.Parallel()
			l := lot(seed)
			runes := [][]rune{{'a', 'b'}, {'a', 'b', 'A', 'B'}, {'a', 0xFFFD, 0x10FFFF}, {'a', 'b', 0xFFFD, -1, 0xD800, 0x110000}}[seed%4]
			for range 12 {
				p := newPair(t)
				longest := 3 + l.draw(8)
				for range 200 {
					line := l.text(runes, longest)
					if n := len(p.w.list); n > 0 && l.draw(3) == 0 {
						line = slices.Clone(p.w.list[l.draw(n)].line)
					}
					p.add(line)
					p.holdEntries()
					p.best(l.text(runes, 3))
					p.search(l.text(runes, 4), l.draw(2) == 0, l.draw(34)-2, l.draw(2) == 0)
				}
				for range 20 {
					p.ask(l.text(runes, 5))
					line := p.w.list[l.draw(len(p.w.list))].line
					from := l.draw(len(line) + 1)
					p.ask(line[from : from+l.draw(len(line)-from+1)])
				}
			}
		})
	}
}

// Lines of lengths and counts with whose values much is rounded.
func TestDrawnValues(t *testing.T) {
	for seed := range 8 {
		t.Run(fmt.Sprint(seed), func(t *testing.T) {
			t.Parallel()
			l := lot(seed + 50)
			for range 300 {
				p := newPair(t)
				for range 1 + l.draw(30) {
					line := slices.Repeat([]rune{'x'}, 1+l.draw(40))
					for range l.draw(6) {
						line[l.draw(len(line))] = rune('a' + l.draw(3))
					}
					for range 1 + l.draw(1+l.draw(20)) {
						p.add(line)
					}
				}
				p.holdEntries()
				for _, text := range []string{"", "a", "ab", "aa", "bc", "abc", "x", "xa", "ax", "xx"} {
					p.best([]rune(text))
				}
			}
		})
	}
}
