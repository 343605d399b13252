package abbr

import (
	"math"
	"slices"
	"strings"
	"testing"

	"stylus/api"
)

// P17.2

func TestExample(t *testing.T) {
	x := table(t, "fn", "n")
	holdAhead(t, x, "xfn", 3, "")
	holdAhead(t, x, "x fn", 4, "fn")
}

func TestWhereNamesAre(t *testing.T) {
	x := table(t, "fn", "->", "a(")
	for _, name := range []string{"fn", "->", "a("} {
		holdEnd(t, x, name, name)
		holdEnd(t, x, " "+name, name)
		holdEnd(t, x, "some text "+name, name)
		holdEnd(t, x, "line\n"+name, name)
		holdEnd(t, x, "line\t"+name, name)
		holdEnd(t, x, strings.Repeat("x ", 5000)+name, name)
		// Only what is ahead of the place counts.
		for _, behind := range []string{" ", "x", "n", "fn", ">", "->", "\n", name, strings.Repeat("fn", 5000)} {
			holdAhead(t, x, name+behind, 2, name)
			holdAhead(t, x, "x "+name+behind, 4, name)
			holdAhead(t, x, name+behind, 1, "")
			holdAhead(t, x, name+behind, 0, "")
			holdAhead(t, x, "x "+name+behind, 3, "")
			holdAhead(t, x, "x "+name+behind, 2, "")
		}
		holdEnd(t, x, name+" ", "")
		holdEnd(t, x, name+"x", "")
		holdEnd(t, x, name+".", "")
		holdEnd(t, x, name[:1], "")
		holdEnd(t, x, name[1:], "")
	}
}

func TestPlaces(t *testing.T) {
	x := table(t, "fn", "f", "n")
	text := "fn fn"
	for at, want := range []string{"", "f", "fn", "", "f", "fn"} {
		holdAhead(t, x, text, at, want)
	}
	for _, at := range []int{math.MinInt, math.MinInt + 1, math.MinInt + 20, math.MinInt32, -21, -20, -2, -1, 6, 7, 25, 26, math.MaxInt32, 1 << 32, 1<<32 + 2, math.MaxInt - 20, math.MaxInt} {
		holdAhead(t, x, text, at, "")
		holdAhead(t, x, "", at, "")
	}
	holdAhead(t, x, "", 0, "")
	// What is behind the end of a text doesn't belong to it.
	whole := []rune(text)
	holdAheadRunes(t, x, whole[:1], 2, nil)
	holdAheadRunes(t, x, whole[:0], 2, nil)
	holdAheadRunes(t, x, whole[:2], 5, nil)
}

func TestEmptyTableAhead(t *testing.T) {
	x := New()
	holdEnd(t, x, "", "")
	holdEnd(t, x, "fn", "")
	holdSet(t, x, "fn", "x", api.OK)
	holdEnd(t, x, "fn", "fn")
	holdDrop(t, x, "fn", api.OK)
	holdEnd(t, x, "fn", "")
	holdSet(t, x, "fn", "$", api.ErrForm)
	holdEnd(t, x, "fn", "")
}

// A text of which the name is known only by its end, or that is shorter.
func TestShortTexts(t *testing.T) {
	x := table(t, "abc", "bcd", letters(20))
	for _, text := range []string{"", "a", "b", "c", "d", "ab", "bc", "cd", "ac", letters(19), letters(20)[1:]} {
		holdEnd(t, x, text, "")
	}
	holdEnd(t, x, letters(20), letters(20))
	holdEnd(t, x, "("+letters(20), letters(20))
	holdEnd(t, x, "x"+letters(20), "")
	holdEnd(t, x, "a"+letters(20), "")
	holdEnd(t, x, letters(20)+letters(20), "")
	holdEnd(t, x, letters(20)+"-"+letters(20), letters(20))
	holdAhead(t, x, letters(40), 20, letters(20))
	holdAhead(t, x, letters(40), 21, "")
}

// wordRunes and others are the runes next to each border of the word runes.
var (
	wordRunes = []rune{'0', '9', 'A', 'Z', '_', 'a', 'z', 128, 129, 133, 160, 0xE9, 0x2028, 0xD7FF, 0xD800, 0xDFFF, 0xE000, 0xFFFD, 0x10FFFF, 0x110000, math.MaxInt32}
	others    = []rune{math.MinInt32, -128, -2, -1, 0, 9, 10, 11, 13, 27, ' ', '-', '/', ':', '@', '[', '^', '`', '{', '~', 127}
)

func TestRuneAheadOfName(t *testing.T) {
	x := table(t, "n", "(", "_x", "9", "é", "-n")
	for _, name := range []string{"n", "_x", "9", "é"} {
		for _, r := range wordRunes {
			holdAheadRunes(t, x, append([]rune{r}, []rune(name)...), 1+len([]rune(name)), nil)
			holdAheadRunes(t, x, append([]rune{' ', r}, []rune(name)...), 2+len([]rune(name)), nil)
		}
		for _, r := range others {
			if r != '-' || name != "n" {
				holdAheadRunes(t, x, append([]rune{r}, []rune(name)...), 1+len([]rune(name)), []rune(name))
				holdAheadRunes(t, x, append([]rune{'a', r}, []rune(name)...), 2+len([]rune(name)), []rune(name))
			}
		}
	}
	for _, r := range slices.Concat(wordRunes, others) {
		holdAheadRunes(t, x, []rune{r, '('}, 2, []rune("("))
		holdAheadRunes(t, x, []rune{r, '-', 'n'}, 3, []rune("-n"))
	}
}

// A rune of each kind as what a name begins with.
func TestFirstRuneOfName(t *testing.T) {
	for _, r := range wordRunes {
		x := New()
		e := x.Set([]rune{r, '('}, nil)
		if e != api.OK { // it is not valid
			continue
		}
		holdAheadRunes(t, x, []rune{r, '('}, 2, []rune{r, '('})
		holdAheadRunes(t, x, []rune{'-', r, '('}, 3, []rune{r, '('})
		holdAheadRunes(t, x, []rune{'a', r, '('}, 3, nil)
		holdAheadRunes(t, x, []rune{r, r, '('}, 3, nil)
	}
	for _, r := range others {
		x := New()
		e := x.Set([]rune{r, 'a'}, nil)
		if e != api.OK {
			continue
		}
		holdAheadRunes(t, x, []rune{r, 'a'}, 2, []rune{r, 'a'})
		holdAheadRunes(t, x, []rune{'-', r, 'a'}, 3, []rune{r, 'a'})
		holdAheadRunes(t, x, []rune{'a', r, 'a'}, 3, []rune{r, 'a'})
		holdAheadRunes(t, x, []rune{r, r, 'a'}, 3, []rune{r, 'a'})
	}
}

// Where a name begins is all that counts: not what is inside it, or behind it.
func TestRunesInsideNames(t *testing.T) {
	x := table(t, "a-b", "--c", "-d-")
	holdEnd(t, x, "a-b", "a-b")
	holdEnd(t, x, "xa-b", "")
	holdEnd(t, x, "x--c", "--c")
	holdEnd(t, x, "x-d-", "-d-")
	holdAhead(t, x, "a-bc", 3, "a-b")
	holdAhead(t, x, "x-d-e", 4, "-d-")
}

func TestLongestName(t *testing.T) {
	x := table(t, "c", "-c", "b-c", "+b-c")
	holdEnd(t, x, "c", "c")
	holdEnd(t, x, " c", "c")
	holdEnd(t, x, "-c", "-c")
	holdEnd(t, x, "a-c", "-c")
	holdEnd(t, x, "b-c", "b-c")
	holdEnd(t, x, " b-c", "b-c")
	holdEnd(t, x, "+b-c", "+b-c")
	holdEnd(t, x, "x+b-c", "+b-c")
	// The longer one doesn't begin as it should, a shorter one does.
	holdEnd(t, x, "xb-c", "-c")
	holdDrop(t, x, "-c", api.OK)
	holdEnd(t, x, "xb-c", "c")
	holdEnd(t, x, "+b-c", "+b-c")
	holdDrop(t, x, "+b-c", api.OK)
	holdEnd(t, x, "+b-c", "b-c")
	holdEnd(t, x, "xbc", "")
	holdDrop(t, x, "c", api.OK)
	holdEnd(t, x, "xb-c", "")
}

// All twenty names are before the place, however a map has them.
func TestNestedNames(t *testing.T) {
	var names []string
	for n := 1; n <= 20; n++ {
		names = append(names, strings.Repeat("-", n))
	}
	x := table(t, names...)
	for n := range 41 {
		text := strings.Repeat("-", n)
		holdEnd(t, x, text, text[:min(n, 20)])
		holdEnd(t, x, "a"+text, text[:min(n, 20)])
	}
	for n := 20; n > 0; n-- {
		holdEnd(t, x, strings.Repeat("-", 20), names[n-1])
		holdDrop(t, x, names[n-1], api.OK)
	}
	holdEnd(t, x, strings.Repeat("-", 20), "")
}

func TestCapitalNames(t *testing.T) {
	x := table(t, "Ab", "aB", "é", "ß")
	holdEnd(t, x, "Ab", "Ab")
	holdEnd(t, x, "aB", "aB")
	holdEnd(t, x, "ab", "")
	holdEnd(t, x, "AB", "")
	holdEnd(t, x, "É", "")
	holdEnd(t, x, "SS", "")
	holdNone(t, x, "ab")
	holdSet(t, x, "ab", snippetOf("ab"), api.OK)
	holdEnd(t, x, "ab", "ab")
	holdEnd(t, x, "Ab", "Ab")
	holdAll(t, x, "Ab", "aB", "é", "ß", "ab")
}
