package score

import (
	"math"
	"slices"
	"strings"
	"testing"
)

// holdMarkRunes holds a mark to the last bit, and that it is one (P18.3).
func holdMarkRunes(t *testing.T, a, b []rune, want float64) {
	t.Helper()
	got := Mark(a, b)
	if !same(got, want) {
		t.Errorf("Mark(%v, %v): %v, want %v", a, b, got, want)
	}
	if !none(got) && !(got >= 0 && got <= 1.5) {
		t.Errorf("Mark(%v, %v): %v", a, b, got)
	}
}

func holdMark(t *testing.T, a, b string, want float64) {
	t.Helper()
	holdMarkRunes(t, []rune(a), []rune(b), want)
}

func holdMarkWords(t *testing.T, a, b []rune) {
	t.Helper()
	holdMarkRunes(t, a, b, wordsMark(a, b))
}

// P18.2: Mark

func TestMarkOfAnEmptyText(t *testing.T) {
	for _, a := range [][]rune{nil, {}, make([]rune, 0, 3)} {
		for _, b := range [][]rune{nil, {}, make([]rune, 0, 3), {'a'}, {-1}, []rune("some text")} {
			if got := Mark(a, b); math.Float64bits(got) != 0 {
				t.Errorf("Mark(%v, %v): %x, want 0", a, b, math.Float64bits(got))
			}
		}
	}
}

func TestMarkForAnEmptyText(t *testing.T) {
	for _, a := range []string{"a", "aa", "some text", "\x00"} {
		holdMarkRunes(t, []rune(a), nil, math.NaN())
		holdMarkRunes(t, []rune(a), []rune{}, math.NaN())
	}
}

func TestMarkOfEqualTexts(t *testing.T) {
	for _, a := range []string{"a", "ab", "aa", "abc", "aaaa", "some text", "é€😀", "\x00\n", strings.Repeat("ab", 1000)} {
		holdMark(t, a, a, 1.5)
	}
}

func TestMarkOfALongerText(t *testing.T) {
	none := math.NaN()
	holdMark(t, "ab", "a", none)
	holdMark(t, "ab", "b", none)
	holdMark(t, "aa", "a", none)
	holdMark(t, "aaa", "aa", none)
	holdMark(t, "abc", "ab", none)
	holdMark(t, "some text", "some tex", none)
}

func TestMarkWhereARuneIsNotFound(t *testing.T) {
	none := math.NaN()
	for _, a := range []string{"x", "xb", "xbc", "axc", "abx", "xabc", "axbc", "abxc", "abcx", "bx", "xx"} {
		holdMark(t, a, "abc", none)
	}
	// It is there, but ahead of the previous one, or it is that one.
	for _, a := range []string{"ba", "ca", "cb", "aa", "bb", "cc", "aab", "abb", "abcc", "acb", "abca", "cab"} {
		holdMark(t, a, "abc", none)
	}
	// As often as it was taken already.
	holdMark(t, "aaa", "aba", none)
	holdMark(t, "abab", "aba", none)
	holdMark(t, "baa", "aba", none)
}

func TestMarkOfOneRune(t *testing.T) {
	holdMark(t, "a", "a", 1.5)
	holdMark(t, "a", "ab", 0.75)
	holdMark(t, "a", "ba", 0.5)
	holdMark(t, "a", "bab", 1.0/3)
	holdMark(t, "a", "aa", 0.75)
	holdMark(t, "a", "abc", 0.5)
	holdMark(t, "b", "abc", 1.0/3)
	holdMark(t, "c", "abc", 1.0/3)
	holdMark(t, "a", "abcd", 0.375)
	holdMark(t, "d", "abcd", 0.25)
}

func TestMarkOfSomeRunes(t *testing.T) {
	for _, c := range []struct {
		a, b string
		want float64
	}{
		{"ac", "abc", 2.5 / 3}, {"bc", "abc", 2.5 / 3}, {"ab", "abc", 1}, {"aa", "aba", 2.5 / 3}, {"ac", "bac", 2.5 / 3}, {"ac", "babc", 0.5},
		{"abc", "abxc", 1}, {"abc", "axbc", 1}, {"abc", "xabc", 1}, {"abc", "abcx", 4.5 / 4}, {"abc", "axbxc", 0.7}, {"abc", "xaxbxc", 0.5},
		{"st", "some text", 2.5 / 9}, {"text", "some text", 5.5 / 9}, {"some", "some text", 6.0 / 9}, {"e t", "some text", 4.0 / 9}, {"ee", "some text", 2.0 / 9},
	} {
		holdMark(t, c.a, c.b, c.want)
	}
}

// The first matching rune is taken, also where a later one would follow the
// previous one, or be followed by the next one, immediately.
func TestMarkTakesTheFirst(t *testing.T) {
	holdMark(t, "ab", "aab", 2.5/3)
	holdMark(t, "ab", "acab", 2.5/4)
	holdMark(t, "ab", "cacab", 2.0/5)
	holdMark(t, "bc", "abxbc", 2.0/5)
	holdMark(t, "abc", "axbabc", 3.5/6)
	holdMark(t, "abc", "abxbc", 4.0/5)
	holdMark(t, "aab", "axaab", 3.5/5)
	holdMark(t, "ab", "abab", 3.0/4)
}

func TestMarkOfRuns(t *testing.T) {
	holdMark(t, "a", "aaaa", 1.5/4)
	holdMark(t, "aa", "aaaa", 3.0/4)
	holdMark(t, "aaa", "aaaa", 4.5/4)
	holdMark(t, "aaaa", "aaaa", 1.5)
	holdMark(t, "aaaaa", "aaaa", math.NaN())
	holdMark(t, "aa", "baaa", 2.5/4)
	holdMark(t, "aab", "aaab", 4.0/4)
	holdMark(t, "abb", "aabbb", 4.0/5)
	holdMark(t, "aabb", "aaabbb", 5.5/6)
}

func TestMarkCapitalLetters(t *testing.T) {
	none := math.NaN()
	holdMark(t, "A", "a", none)
	holdMark(t, "a", "A", none)
	holdMark(t, "a", "Aa", 0.5)
	holdMark(t, "A", "aA", 0.5)
	holdMark(t, "aB", "abB", 2.5/3)
	holdMark(t, "É", "é", none)
	holdMark(t, "K", "\u212A", none)
}

var anyRunes = []rune{math.MinInt32, math.MinInt32 + 1, -0x10FFFF, -65533, -2, -1, 0, 1, 'A', 'a', 127, 128, 0xD7FF, 0xD800, 0xDFFF, 0xE000, 0xFFFC, 0xFFFD, 0xFFFE, 0x10FFFF, 0x110000, 0x110001, 0x20FFFD, math.MaxInt32 - 1, math.MaxInt32}

func TestMarkComparesByNumber(t *testing.T) {
	for i, r := range anyRunes {
		for k, s := range anyRunes {
			want, later := math.NaN(), math.NaN()
			if i == k {
				want, later = 1.5, 0.75
			} else {
				holdMarkRunes(t, []rune{r}, []rune{s, r}, 0.5)
				holdMarkRunes(t, []rune{r, s}, []rune{r, s, s}, 1)
				holdMarkRunes(t, []rune{r, s}, []rune{s, r}, math.NaN())
			}
			holdMarkRunes(t, []rune{r}, []rune{s}, want)
			holdMarkRunes(t, []rune{r}, []rune{s, s}, later)
		}
	}
}

func TestMarkIsRounded(t *testing.T) {
	for n := 1; n < 300; n++ {
		b := []rune(strings.Repeat("a", n))
		for k := 1; k <= n; k += 1 + n/40 {
			holdMarkRunes(t, b[:k], b, float64(3*k)/float64(2*n))
			behind := append([]rune("b"), b...)
			holdMarkRunes(t, b[:k], behind, float64(3*k-1)/float64(2*n+2))
		}
	}
}

func TestMarkOfAllShortTexts(t *testing.T) {
	for _, c := range []struct {
		runes     []rune
		one, many int
	}{
		{[]rune("ab"), 5, 8}, {[]rune("abA"), 4, 5}, {[]rune{-1, 65533, 0x110000}, 4, 5}, {[]rune("abcd"), 3, 5}, {[]rune("a"), 9, 9},
	} {
		var all [][]rune
		lists(c.runes, c.one, func(a []rune) { all = append(all, slices.Clone(a)) })
		lists(c.runes, c.many, func(b []rune) {
			for _, a := range all {
				holdMarkWords(t, a, b)
			}
		})
	}
}

func TestMarkOfDrawnTexts(t *testing.T) {
	d := lot(191)
	for range 40000 {
		b := make([]rune, d.draw(50))
		few := 1 + d.draw(10)
		for i := range b {
			b[i] = anyRunes[d.draw(few)+len(anyRunes)-10]
		}
		var a []rune
		for _, r := range b {
			if d.draw(4) > 0 {
				a = append(a, r)
			}
		}
		if len(a) > 0 && d.draw(3) == 0 {
			a[d.draw(len(a))] = anyRunes[d.draw(len(anyRunes))]
		}
		holdMarkWords(t, a, b)
		holdMarkWords(t, b, a)
		// Many of these are found with few runes between them.
		holdMarkWords(t, a[:min(len(a), d.draw(6))], b)
	}
}

func TestMarkOfLongTexts(t *testing.T) {
	const n = 999999
	a := slices.Repeat([]rune{'a'}, n)
	holdLong := func(name string, a, b []rune, want float64) {
		t.Helper()
		if got := Mark(a, b); !same(got, want) {
			t.Errorf("%s: %v, want %v", name, got, want)
		}
	}
	holdLong("all", a, a, 1.5)
	holdLong("one less", a[1:], a, float64(3*(n-1))/float64(2*n))
	holdLong("one more", a, a[1:], math.NaN())
	spaced := slices.Repeat([]rune{'b', 'a'}, n)
	holdLong("spaced", a, spaced, 0.5)
	holdLong("spaced, from the first one on", a[1:], spaced[1:], (float64(n-1)+0.5)/float64(2*n-1))
	holdLong("the last one", []rune{'c'}, append(spaced, 'c'), 1/float64(2*n+1))
	holdLong("none", []rune{'d'}, spaced, math.NaN())
	// 16777217 is the first number that a float32 has no room for.
	longest := make([]rune, 1<<24+1)
	longest[1<<24] = 'a'
	holdLong("behind very many", []rune{'a'}, longest, 1.0/(1<<24+1))
	holdLong("pairs", slices.Repeat([]rune{'b', 'a'}, n/3), slices.Repeat([]rune{'b', 'a', 'c'}, n/3), 5.0/6+0.5/float64(n))
}
