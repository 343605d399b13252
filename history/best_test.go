package history

import (
	"cmp"
	"fmt"
	"math"
	"slices"
	"strings"
	"testing"

	"stylus/api"
	"stylus/score"
)

// ringOf returns a ring with entries that were added as often as they tell.
func ringOf(t *testing.T, l ...known) *Ring {
	t.Helper()
	r := New()
	for _, k := range l {
		for range k.count {
			holdAdd(t, r, []rune(k.line), api.OK)
		}
	}
	return r
}

func holdBest(t *testing.T, r *Ring, text string, want ...int) {
	t.Helper()
	holdBestRunes(t, r, []rune(text), want...)
}

func holdBestRunes(t *testing.T, r *Ring, text []rune, want ...int) {
	t.Helper()
	if l := r.Best(text); !slices.Equal(l, want) {
		t.Errorf("Best(%s): %v, want %v", short(text), l, want)
	}
}

// P19.2: Best

func TestBestOfAnEmptyText(t *testing.T) {
	for _, c := range []struct {
		ring []known
		want []int
	}{
		{nil, nil},
		{[]known{{"", 1}}, []int{0}},
		{[]known{{"abc", 7}}, []int{0}},
		{[]known{{"a", 1}, {"b", 1}, {"c", 1}}, []int{0, 1, 2}},
		{[]known{{"a", 1}, {"b", 2}, {"c", 3}}, []int{2, 1, 0}},
		{[]known{{"a", 3}, {"b", 2}, {"c", 1}}, []int{0, 1, 2}},
		{[]known{{"a", 2}, {"", 3}, {"c", 2}, {"d", 3}}, []int{1, 3, 0, 2}},
		{[]known{{"", 1}, {"b", 2}}, []int{1, 0}},
		{[]known{{"a", 100}, {"b", 5}, {"c", 101}, {"d", 99}, {"e", 7}}, []int{2, 0, 3, 4, 1}},
	} {
		for _, text := range [][]rune{nil, {}, make([]rune, 0, 3)} {
			holdBestRunes(t, ringOf(t, c.ring...), text, c.want...)
		}
	}
}

func TestBestOfATextThatNoLineHas(t *testing.T) {
	for _, lines := range [][]string{{}, {""}, {"a"}, {"ab", "ba", ""}, numbered(0, 30)} {
		r := ring(t, lines...)
		addAll(t, r, lines...)
		for _, text := range []string{"x", "xa", "ax", "xx", "A", "aba", "aab", strings.Repeat("a", 3000)} {
			holdBest(t, r, text)
		}
		holdBestRunes(t, r, []rune{-1})
		holdBestRunes(t, r, []rune{'a', 0x110000})
	}
}

func TestBestByMarks(t *testing.T) {
	r := ring(t, "xxab", "ab", "xab", "abx", "axb", "ba", "", "a", "abab")
	// 2.5/4, 3/2, 2.5/3, 3/3, 2.5/3; none; none; none; 3/4
	holdBest(t, r, "ab", 1, 3, 2, 4, 8, 0)
	// 1/4, 1.5/2, 1/3, 1.5/3, 1.5/3, 1/2; none; 1.5; 1.5/4
	holdBest(t, r, "a", 7, 1, 3, 4, 5, 8, 2, 0)
	// 1/4, 1/2, 1/3, 1/3, 1/3, 1.5/2; none; none; 1/4
	holdBest(t, r, "b", 5, 1, 2, 3, 4, 0, 8)
	holdBest(t, r, "x", 2, 0, 3, 4)
	holdBest(t, r, "ba", 5, 8)
	holdBest(t, r, "aa", 8)
	holdBest(t, r, "abx", 3)
	holdBest(t, r, "bx", 3)
}

func TestBestLeavesOutWhatHasNoValue(t *testing.T) {
	r := ringOf(t, known{"", 9}, known{"b", 50}, known{"ab", 1}, known{"c", 3}, known{"ca", 2})
	holdBest(t, r, "a", 2, 4)
	holdBest(t, r, "b", 1, 2)
	holdBest(t, r, "c", 3, 4)
	holdBest(t, r, "d")
	holdBest(t, r, "", 1, 0, 3, 4, 2)
}

// The runes of the text are found in order, with others between them.
func TestBestIsNoSearch(t *testing.T) {
	r := ring(t, "git commit", "get it", "go test", "gt")
	holdBest(t, r, "gt", 3, 1, 2, 0)
	holdSearch(t, r, "gt", true, -1, false, 3)
}

func TestBestTellsCapitalLetters(t *testing.T) {
	r := ring(t, "a", "A", "xa", "xA")
	holdBest(t, r, "a", 0, 2)
	holdBest(t, r, "A", 1, 3)
}

func TestBestOfRunesThatAreNotValid(t *testing.T) {
	r := ring(t, "\uFFFD", "a\uFFFD", "")
	for _, c := range borders {
		if !c.valid {
			holdBestRunes(t, r, []rune{c.r})
			holdBestRunes(t, r, []rune{c.r, 0xFFFD})
			holdBestRunes(t, r, []rune{0xFFFD, c.r})
		}
	}
	holdBestRunes(t, r, []rune{0xFFFD}, 0, 1)
}

// A mark and a quarter of a count together decide.
func TestBestByMarksAndCounts(t *testing.T) {
	r := ringOf(t, known{"ab", 1}, known{"xxxxxab", 6}, known{"xab", 4}, known{"axxb", 2})
	// 1.5+0.25, 2.5/7+1.5, 2.5/3+1, 2.5/4+0.5
	holdBest(t, r, "ab", 1, 2, 0, 3)
	addAll(t, r, "ab")
	// 2.5/7+1.5, 2.5/3+1, 2.5/4+0.5, 1.5+0.5
	holdBest(t, r, "ab", 3, 0, 1, 2)
	addAll(t, r, "axxb", "axxb", "axxb")
	// 2.5/7+1.5, 2.5/3+1, 1.5+0.5, 2.5/4+1.25
	holdBest(t, r, "ab", 2, 3, 0, 1)
}

// A quarter of a count is added, and not more or less of it.
func TestBestAddsAQuarter(t *testing.T) {
	for n := 2; n < 40; n++ {
		// 1.5+0.25 against 1.5/n+count/4: more of it from the count 7-6/n on.
		for count := 1; count < 12; count++ {
			r := ringOf(t, known{"a", 1}, known{"a" + strings.Repeat("x", n-1), count})
			if count*n > 7*n-6 {
				holdBest(t, r, "a", 1, 0)
			} else {
				holdBest(t, r, "a", 0, 1)
			}
		}
	}
}

func TestBestOfEqualValues(t *testing.T) {
	for _, c := range []struct {
		text string
		ring []known
	}{
		{"a", []known{{"ab", 1}, {"ac", 1}, {"ad", 1}}},
		{"a", []known{{"ba", 2}, {"abc", 2}, {"ca", 2}, {"acb", 2}}},
		// Different marks and counts: 1 and 1, 0.5 and 3, 0.75 and 2, 0.25 and 4.
		{"ab", []known{{"abc", 1}, {"axbxx", 3}}},
		{"ab", []known{{"axbxx", 3}, {"abc", 1}}},
		{"ab", []known{{"abcd", 2}, {"abc", 1}, {"xabxx", 3}, {"xaxbxxxx", 4}}},
		{"ab", []known{{"xaxbxxxx", 4}, {"xabxx", 3}, {"abc", 1}, {"abcd", 2}}},
		{"a", []known{{"a", 1}, {"ab", 4}, {"abc", 5}, {"abcdef", 6}}},
		{"a", []known{{"abcdef", 6}, {"xaxx", 6}, {"ba", 5}, {"x", 9}, {"a", 1}}},
	} {
		r := ringOf(t, c.ring...)
		var want []int
		for i, k := range c.ring {
			if strings.Contains(k.line, c.text[:1]) {
				want = append(want, i)
			}
		}
		holdBest(t, r, c.text, want...)
	}
}

// lineOf returns a line of n runes that has those of abcde, the first ones of them
// one after the other from its beginning on, and an x ahead of each other one; or
// none if there is no room.
func lineOf(n, together int) string {
	line := "abcde"[:together]
	for _, r := range "abcde"[together:] {
		line += "x" + string(r)
	}
	if len(line) > n {
		return ""
	}
	return line + strings.Repeat("x", n-len(line))
}

// valued is an entry, and its value for abcde.
type valued struct {
	known
	mark, value float64
}

// byQuarters returns the value if each quarter were added alone.
func (v valued) byQuarters() float64 {
	sum := v.mark
	for range v.count {
		sum += 0.25
	}
	return sum
}

// manyValued returns entries with many marks and counts, in order of their values.
func manyValued() []valued {
	var l []valued
	for n := 5; n <= 60; n++ {
		for together := range 6 {
			line := lineOf(n, together)
			if line == "" {
				continue
			}
			mark := float64(10+together) / float64(2*n)
			for _, count := range []int{1, 2, 3, 4, 5, 6, 7, 8, 9, 11, 13, 17, 33} {
				l = append(l, valued{known{line, count}, mark, mark + 0.25*float64(count)})
			}
		}
	}
	slices.SortFunc(l, func(a, b valued) int { return cmp.Compare(a.value, b.value) })
	return l
}

// Values that would be equal if they were exact, and are equal, or differ in the
// last bit alone, or would be in another order if the quarters were added one by
// one.
func TestBestRoundsOnce(t *testing.T) {
	all := manyValued()
	equal, lastBit, quarters := 0, 0, 0
	for i, a := range all {
		for _, b := range all[i+1:] {
			if b.value-a.value > 1e-12 {
				break
			}
			if a.mark == b.mark {
				continue
			}
			want := []int{1, 0}
			switch {
			case a.value == b.value:
				want = []int{0, 1}
				equal++
			case b.value == math.Nextafter(a.value, math.Inf(1)):
				lastBit++
			}
			if (a.value < b.value) != (a.byQuarters() < b.byQuarters()) {
				quarters++
			}
			holdBest(t, ringOf(t, a.known, b.known), "abcde", want...)
			holdBest(t, ringOf(t, b.known, a.known), "abcde", 0, 1)
		}
	}
	if equal < 50 || lastBit < 50 || quarters < 50 {
		t.Errorf("equal values: %d, in all but the last bit: %d, in another order by quarters: %d", equal, lastBit, quarters)
	}
}

// A third and a quarter are seven twelfths as a twelfth and two quarters are, but
// the former are rounded down.
func TestBestOfTwelfths(t *testing.T) {
	third, twelfth := "xxa", "xxxxxxxxxxxa"
	for _, c := range []struct {
		a, b known
		want []int
	}{
		{known{third, 1}, known{twelfth, 2}, []int{1, 0}},
		{known{twelfth, 2}, known{third, 1}, []int{0, 1}},
		{known{third, 2}, known{twelfth, 3}, []int{1, 0}},
		{known{twelfth, 3}, known{third, 2}, []int{0, 1}},
		{known{third, 3}, known{twelfth, 4}, []int{0, 1}},
		{known{twelfth, 4}, known{third, 3}, []int{0, 1}},
		{known{third, 3}, known{twelfth, 3}, []int{0, 1}},
		{known{twelfth, 3}, known{third, 3}, []int{1, 0}},
	} {
		holdBest(t, ringOf(t, c.a, c.b), "a", c.want...)
	}
}

func TestBestOfGreatCounts(t *testing.T) {
	r := ringOf(t, known{"ab", 40000}, known{"xab", 40002}, known{"xxxab", 40004})
	// 1.5, 2.5/3+0.5, 0.5+1
	holdBest(t, r, "ab", 0, 2, 1)
	holdBest(t, r, "", 2, 1, 0)
	holdBest(t, r, "x", 2, 1)
	addAll(t, r, "xab")
	holdBest(t, r, "ab", 2, 0, 1)
	r = ringOf(t, known{"ab", 32766}, known{"xab", 32770}, known{"xxxab", 65537}, known{"abx", 254}, known{"axb", 257}, known{"abxx", 1})
	holdBest(t, r, "ab", 2, 1, 0, 4, 3, 5)
	holdBest(t, r, "", 2, 1, 0, 4, 3, 5)
}

func TestBestOfAFullRing(t *testing.T) {
	for _, n := range []int{29, 30, 31, 50} {
		var l []known
		for i := range n {
			l = append(l, known{fmt.Sprintf("%sa%s", strings.Repeat("x", i*7%n), strings.Repeat("y", n)), 1 + i*5%11})
		}
		p := newPair(t)
		for _, k := range l {
			for range k.count {
				p.add([]rune(k.line))
			}
		}
		p.holdEntries()
		for _, text := range []string{"", "a", "x", "xx", "xa", "xy", "yy", "ay", "z"} {
			p.best([]rune(text))
		}
		if places := p.r.Best([]rune("a")); len(places) != min(n, 30) {
			t.Errorf("Best: %d places", len(places))
		}
	}
}

// Each place is there at most once, and is that of an entry that has a value.
func TestBestHasPlacesOnce(t *testing.T) {
	l := lot(21)
	for range 500 {
		r := New()
		for range l.draw(80) {
			r.Add(l.text([]rune("aabx"), 6))
		}
		for _, text := range texts([]rune("ab"), 3) {
			seen := map[int]bool{}
			for _, i := range r.Best(text) {
				line, _, e := r.Line(i)
				if e != api.OK || seen[i] || math.IsNaN(score.Mark(text, line)) {
					t.Errorf("Best(%q): %d", string(text), i)
				}
				seen[i] = true
			}
		}
	}
}
