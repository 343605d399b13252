package history

import (
	"math"
	"slices"
	"strings"
	"testing"
)

// holdSearch holds that the place that is wanted is found; none is wanted by -1.
func holdSearch(t *testing.T, r *Ring, text string, part bool, from int, back bool, want int) {
	t.Helper()
	holdSearchRunes(t, r, []rune(text), part, from, back, want)
}

func holdSearchRunes(t *testing.T, r *Ring, text []rune, part bool, from int, back bool, want int) {
	t.Helper()
	i, is := r.Search(text, part, from, back)
	if is != (want >= 0) || i != max(0, want) {
		t.Errorf("Search(%s, %t, %d, %t): %d, %t, want %d", short(text), part, from, back, i, is, want)
	}
}

// Places beyond all entries.
var (
	farAbove = []int{31, 32, 60, 255, 256, 1000, math.MaxInt32 - 1, math.MaxInt32, math.MaxInt - 1, math.MaxInt}
	farBelow = []int{-1, -2, -30, -31, -256, -1000, math.MinInt32 + 1, math.MinInt32, math.MinInt + 1, math.MinInt}
)

// holdMatching holds that these places match a text, and no other ones, from each
// place on, in both directions.
func holdMatching(t *testing.T, r *Ring, text []rune, part bool, matching ...int) {
	t.Helper()
	nearest := func(from int, back bool) int {
		if back {
			for _, i := range slices.Backward(matching) {
				if i < from {
					return i
				}
			}
			return -1
		}
		for _, i := range matching {
			if i > from {
				return i
			}
		}
		return -1
	}
	for from := range r.Len() + 2 {
		holdSearchRunes(t, r, text, part, from, false, nearest(from, false))
		holdSearchRunes(t, r, text, part, from, true, nearest(from, true))
	}
	for _, from := range farAbove {
		holdSearchRunes(t, r, text, part, from, false, -1)
		holdSearchRunes(t, r, text, part, from, true, nearest(from, true))
	}
	for _, from := range farBelow {
		holdSearchRunes(t, r, text, part, from, false, nearest(from, false))
		holdSearchRunes(t, r, text, part, from, true, -1)
	}
}

// P19.2: Search

func TestSearchForAnEmptyText(t *testing.T) {
	for _, lines := range [][]string{{}, {""}, {"a"}, {"a", "", "bc"}, {"", "a"}, {"a", ""}, numbered(0, 30)} {
		var all []int
		for i := range lines {
			all = append(all, i)
		}
		r := ring(t, lines...)
		for _, text := range [][]rune{nil, {}, make([]rune, 0, 4)} {
			holdMatching(t, r, text, false, all...)
			holdMatching(t, r, text, true, all...)
		}
	}
}

func TestSearch(t *testing.T) {
	lines := []string{"abc", "xabc", "", "ab", "cab", "a", "bc", "abcabc", "b"}
	for _, c := range []struct {
		text           string
		prefixes, part []int
	}{
		{"abc", []int{0, 7}, []int{0, 1, 7}},
		{"xabc", []int{1}, []int{1}},
		{"ab", []int{0, 3, 7}, []int{0, 1, 3, 4, 7}},
		{"cab", []int{4}, []int{4, 7}},
		{"a", []int{0, 3, 5, 7}, []int{0, 1, 3, 4, 5, 7}},
		{"bc", []int{6}, []int{0, 1, 6, 7}},
		{"b", []int{6, 8}, []int{0, 1, 3, 4, 6, 7, 8}},
		{"c", []int{4}, []int{0, 1, 4, 6, 7}},
		{"x", []int{1}, []int{1}},
		{"xa", []int{1}, []int{1}},
		{"abcabc", []int{7}, []int{7}},
		{"bca", nil, []int{7}},
		{"abcab", []int{7}, []int{7}},
		{"cabc", nil, []int{7}},
		{"ac", nil, nil},
		{"ba", nil, nil},
		{"abcd", nil, nil},
		{"abcabcabc", nil, nil},
		{"d", nil, nil},
		{"xabcx", nil, nil},
		{"xx", nil, nil},
	} {
		r := ring(t, lines...)
		holdMatching(t, r, []rune(c.text), false, c.prefixes...)
		holdMatching(t, r, []rune(c.text), true, c.part...)
	}
}

// The text is at each place of a line, and reaches its end.
func TestSearchAtEachPlace(t *testing.T) {
	for n := range 12 {
		for at := range n + 1 {
			line := strings.Repeat("x", at) + "abc" + strings.Repeat("x", n-at)
			r := ring(t, "xx", line, "abx")
			holdMatching(t, r, []rune("abc"), true, 1)
			if at == 0 {
				holdMatching(t, r, []rune("abc"), false, 1)
			} else {
				holdMatching(t, r, []rune("abc"), false)
			}
		}
	}
}

// A line is not searched beyond its end, and not beyond the beginning of the next.
func TestSearchStaysInALine(t *testing.T) {
	r := ring(t, "ab", "cd", "", "e", "ab")
	for _, text := range []string{"abc", "bc", "bcd", "de", "abcd", "cde", "eab", "ea"} {
		holdMatching(t, r, []rune(text), true)
		holdMatching(t, r, []rune(text), false)
	}
}

// Texts that begin again within themselves.
func TestSearchBeginsAgain(t *testing.T) {
	for _, c := range []struct {
		text, line string
		prefix     bool
	}{
		{"aab", "aaab", false}, {"aab", "aaaaab", false}, {"aab", "aab", true}, {"aab", "aabaab", true}, {"aaab", "aaaab", false},
		{"abab", "aabab", false}, {"abac", "ababac", false}, {"ababac", "abababac", false}, {"ababc", "abababc", false},
		{"abcabd", "abcabcabd", false}, {"aabaaa", "aabaabaaa", false}, {"aa", "baa", false}, {"abb", "ababb", false}, {"\uFFFDa", "\uFFFD\uFFFDa", false},
	} {
		r := ring(t, c.line)
		holdMatching(t, r, []rune(c.text), true, 0)
		if c.prefix {
			holdMatching(t, r, []rune(c.text), false, 0)
		} else {
			holdMatching(t, r, []rune(c.text), false)
		}
	}
	r := ring(t, "aaa", "aba", "abaab", "baa", "abba")
	holdMatching(t, r, []rune("aab"), true, 2)
	holdMatching(t, r, []rune("aaaa"), true)
	holdMatching(t, r, []rune("aaaa"), false)
}

func TestSearchTellsCapitalLetters(t *testing.T) {
	r := ring(t, "abc", "ABC", "aBc", "é", "É", "\u212A")
	for _, c := range []struct {
		text           string
		prefixes, part []int
	}{
		{"a", []int{0, 2}, []int{0, 2}}, {"A", []int{1}, []int{1}}, {"b", nil, []int{0}}, {"B", nil, []int{1, 2}}, {"ab", []int{0}, []int{0}},
		{"Ab", nil, nil}, {"aBc", []int{2}, []int{2}}, {"C", nil, []int{1}}, {"é", []int{3}, []int{3}}, {"É", []int{4}, []int{4}}, {"e", nil, nil}, {"k", nil, nil}, {"K", nil, nil},
	} {
		holdMatching(t, r, []rune(c.text), false, c.prefixes...)
		holdMatching(t, r, []rune(c.text), true, c.part...)
	}
}

// What is not valid matches nothing, also no rune that may stand for it.
func TestSearchForRunesThatAreNotValid(t *testing.T) {
	r := ring(t, "\uFFFD", "a\uFFFD", "\uFFFDa", "a", "", "\x00", "\uFFFD\uFFFD\uFFFD", "\uD7FF\uE000\U0010FFFF")
	for _, c := range borders {
		if c.valid {
			continue
		}
		for _, text := range [][]rune{{c.r}, {'a', c.r}, {c.r, 'a'}, {c.r, c.r}, {0xFFFD, c.r}, {c.r, 0xFFFD}, {c.r, c.r, c.r}} {
			holdMatching(t, r, text, false)
			holdMatching(t, r, text, true)
		}
	}
	holdMatching(t, r, []rune{0xFFFD}, false, 0, 2, 6)
	holdMatching(t, r, []rune{0xFFFD}, true, 0, 1, 2, 6)
	holdMatching(t, r, []rune{0xFFFD, 0xFFFD}, true, 6)
	holdMatching(t, r, []rune{0x10FFFF}, true, 7)
	holdMatching(t, r, []rune{0xE000}, true, 7)
	holdMatching(t, r, []rune{0}, false, 5)
}

// Runes are compared as a whole, and not by some of their bits or bytes.
func TestSearchComparesByNumber(t *testing.T) {
	r := ring(t, "a\u0100b", "\u0161", "\U00010061", "\u6161", "aa")
	holdMatching(t, r, []rune{'a'}, true, 0, 4)
	holdMatching(t, r, []rune{0x161}, true, 1)
	holdMatching(t, r, []rune{0x10061}, true, 2)
	holdMatching(t, r, []rune{'a', 'a'}, true, 4)
	holdMatching(t, r, []rune{'a' - 0x10000}, true)
	holdMatching(t, r, []rune{'a', 0, 1, 'b'}, true)
	for _, c := range borders {
		for _, d := range borders {
			if !d.valid {
				continue
			}
			r := ring(t, string([]rune{'x', d.r, 'y'}), string([]rune{d.r}))
			var prefixes, all []int
			if c.r == d.r {
				prefixes, all = []int{1}, []int{0, 1}
			}
			holdMatching(t, r, []rune{c.r}, false, prefixes...)
			holdMatching(t, r, []rune{c.r}, true, all...)
		}
	}
}

// The nearest one of several, in rings of all lengths with all kinds of gaps.
func TestSearchFindsTheNearest(t *testing.T) {
	for n := range 31 {
		for gap := 1; gap < 8; gap++ {
			r := New()
			var matching []int
			for i := range n {
				line := "no " + string(rune(1000+i))
				if i%gap == gap/2 {
					line = "yes " + string(rune(1000+i))
					matching = append(matching, i)
				}
				addAll(t, r, line)
			}
			holdMatching(t, r, []rune("yes"), false, matching...)
			holdMatching(t, r, []rune("es "), true, matching...)
			holdMatching(t, r, []rune("es "), false)
		}
	}
}

// What is at the place itself is not returned.
func TestSearchLeavesOutThePlace(t *testing.T) {
	r := ring(t, "ab", "cd", "ef")
	for i, text := range []string{"ab", "cd", "ef"} {
		for _, part := range []bool{false, true} {
			holdSearch(t, r, text, part, i, false, -1)
			holdSearch(t, r, text, part, i, true, -1)
			holdSearch(t, r, text, part, i-1, false, i)
			holdSearch(t, r, text, part, i+1, true, i)
			holdSearch(t, r, text, part, i+1, false, -1)
			holdSearch(t, r, text, part, i-1, true, -1)
		}
	}
}

func TestSearchInARingWithoutEntries(t *testing.T) {
	for _, text := range []string{"", "a", "ab"} {
		holdMatching(t, New(), []rune(text), false)
		holdMatching(t, New(), []rune(text), true)
	}
}

func TestSearchAfterMovesAndDrops(t *testing.T) {
	r := ring(t, "ab", "ac", "b", "ad")
	addAll(t, r, "ab")
	holdMatching(t, r, []rune("a"), false, 0, 2, 3)
	holdMatching(t, r, []rune("ab"), false, 3)
	addAll(t, r, numbered(0, 27)...)
	holdMatching(t, r, []rune("a"), false, 1, 2)
	holdMatching(t, r, []rune("ac"), false)
	holdMatching(t, r, []rune("ab"), true, 2)
	addAll(t, r, "ac", "x")
	holdMatching(t, r, []rune("a"), false, 0, 28)
	holdMatching(t, r, []rune("b"), true, 0)
	holdMatching(t, r, []rune("ad"), true)
}

func TestSearchForLongTexts(t *testing.T) {
	a := slices.Repeat([]rune{'a'}, 2000)
	end := append(slices.Clone(a[1:]), 'b')
	r := New()
	r.Add(a)
	r.Add(end)
	r.Add([]rune("b"))
	holdMatching(t, r, a, false, 0)
	holdMatching(t, r, a, true, 0)
	holdMatching(t, r, a[1:], false, 0, 1)
	holdMatching(t, r, end, true, 1)
	holdMatching(t, r, end[1:], false)
	holdMatching(t, r, end[1000:], true, 1)
	holdMatching(t, r, append(slices.Clone(a), 'a'), true)
	holdMatching(t, r, append(slices.Clone(end), 'b'), true)
	holdMatching(t, r, append([]rune{'a'}, end...), true)
	holdMatching(t, r, slices.Repeat([]rune{'a'}, 100000), true)
	holdMatching(t, r, slices.Repeat([]rune{'a'}, 100000), false)
}

// P19.3: a search finds an entry, or there is none.

// walk returns what Search finds from a place on, again and again.
func walk(t *testing.T, r *Ring, text []rune, part bool, from int, back bool) []int {
	t.Helper()
	var found []int
	for {
		i, is := r.Search(text, part, from, back)
		if !is {
			return found
		}
		if i < 0 || i >= r.Len() || len(found) > 30 {
			t.Fatalf("Search(%s, %t, %d, %t): %d", short(text), part, from, back, i)
		}
		found = append(found, i)
		from = i
	}
}

func TestSearchComesToEachEntryOnce(t *testing.T) {
	l := lot(11)
	for range 500 {
		r := New()
		for range l.draw(60) {
			r.Add(l.text([]rune("aab"), 6))
		}
		for _, text := range texts([]rune("ab"), 3) {
			var containing, beginning []int
			for i := range r.Len() {
				line, _, _ := r.Line(i)
				if strings.Contains(string(line), string(text)) {
					containing = append(containing, i)
				}
				if strings.HasPrefix(string(line), string(text)) {
					beginning = append(beginning, i)
				}
			}
			for part, want := range map[bool][]int{true: containing, false: beginning} {
				if found := walk(t, r, text, part, -1, false); !slices.Equal(found, want) {
					t.Errorf("%q, %t, from -1 on: %v, want %v", string(text), part, found, want)
				}
				found := walk(t, r, text, part, r.Len(), true)
				slices.Reverse(found)
				if !slices.Equal(found, want) {
					t.Errorf("%q, %t, from the end on back: %v, want %v", string(text), part, found, want)
				}
			}
		}
	}
}
