package motion

import (
	"slices"
	"strings"
	"testing"

	"stylus/api"
	"stylus/sels"
)

// Below, where a place moves is told by the chapter's words alone: all places
// are tried, and lines are written down as a list.

const wordSigns = "ABCDEFGHIJKLMNOPQRSTUVWXYZabcdefghijklmnopqrstuvwxyz0123456789_"

func wordRune(r rune) bool {
	return r > 127 || r >= 0 && strings.ContainsRune(wordSigns, r)
}

// line has the places of a line: all from its beginning to its end.
type line []int

func linesOf(t []rune) []line {
	all := []line{{0}}
	for at, r := range t {
		if r == 10 {
			all = append(all, nil)
		}
		last := len(all) - 1
		all[last] = append(all[last], at+1)
	}
	return all
}

// moves returns where a place goes by one of the table's rows.
func moves(kind int, t []rune, at int) int {
	switch {
	case at < 0:
		at = 0
	case at > len(t):
		at = len(t)
	}
	lines := linesOf(t)
	own := slices.IndexFunc(lines, func(x line) bool { return slices.Contains(x, at) })
	distance := slices.Index(lines[own], at)
	switch kind {
	case 1, 2:
		to := at + []int{-1, 1}[kind-1]
		if to >= 0 && to <= len(t) {
			return to
		}
	case 3:
		return farthestBack(t, at)
	case 4:
		return farthestForward(t, at)
	case 5:
		return slices.Min(lines[own])
	case 6:
		return slices.Max(lines[own])
	case 7, 8:
		other := own + []int{-1, 1}[kind-7]
		if other >= 0 && other < len(lines) {
			return nearer(lines[other], distance)
		}
	case 9:
		return 0
	case 10:
		return len(t)
	}
	return at
}

// nearer returns a line's place at that distance, or its end.
func nearer(x line, distance int) int {
	if distance < len(x) {
		return x[distance]
	}
	return x[len(x)-1]
}

// classes tells runes apart: w for word runes, - for others.
func classes(t []rune) string {
	var b strings.Builder
	for _, r := range t {
		if wordRune(r) {
			b.WriteByte('w')
		} else {
			b.WriteByte('-')
		}
	}
	return b.String()
}

// farthestBack returns the first place from which only word runes, and then
// only other ones, are ahead of a place.
func farthestBack(t []rune, at int) int {
	c := classes(t[:at])
	for from := 0; ; from++ {
		if !strings.Contains(c[from:], "-w") {
			return from
		}
	}
}

// farthestForward returns the last place up to which only runes that are not
// word runes, and then only word runes, are behind a place.
func farthestForward(t []rune, at int) int {
	c := classes(t[at:])
	for n := len(c); ; n-- {
		if !strings.Contains(c[:n], "w-") {
			return at + n
		}
	}
}

// moved returns selections as the promise about All says it.
func moved(kind int, t []rune, l []api.Sel, extend bool) []api.Sel {
	var all []api.Sel
	for _, s := range sels.Normal(l, len(t)) {
		x := api.Sel{Anchor: s.Anchor, Head: moves(kind, t, s.Head)}
		switch {
		case extend:
		case s.Anchor != s.Head && kind == 1:
			x = api.Sel{Anchor: min(s.Anchor, s.Head), Head: min(s.Anchor, s.Head)}
		case s.Anchor != s.Head && kind == 2:
			x = api.Sel{Anchor: max(s.Anchor, s.Head), Head: max(s.Anchor, s.Head)}
		default:
			x.Anchor = x.Head
		}
		all = append(all, x)
	}
	return sels.Normal(all, len(t))
}

// holdPlace holds where a place moves against the words, and against P12.2.
func holdPlace(t *testing.T, kind int, text []rune, at int) {
	t.Helper()
	got := Move(kind, text, at)
	if want := moves(kind, text, at); got != want {
		t.Fatalf("Move(%d, %q, %d): %d, want %d", kind, text, at, got, want)
	}
	holdLaws(t, kind, text, at, got)
}

// P12.2

func holdLaws(t *testing.T, kind int, text []rune, at, got int) {
	t.Helper()
	if got < 0 || got > len(text) {
		t.Fatalf("Move(%d, %q, %d): %d, not in the text", kind, text, at, got)
	}
	near := min(max(at, 0), len(text))
	switch kind {
	case Left, WordLeft, LineStart, Up, Start:
		if got > near {
			t.Fatalf("Move(%d, %q, %d): %d, forward", kind, text, at, got)
		}
	case Right, WordRight, LineEnd, Down, End:
		if got < near {
			t.Fatalf("Move(%d, %q, %d): %d, back", kind, text, at, got)
		}
	default:
		if got != near {
			t.Fatalf("Move(%d, %q, %d): %d, away", kind, text, at, got)
		}
	}
	switch kind {
	case LineStart, LineEnd, Start, End:
		if again := Move(kind, text, got); again != got {
			t.Fatalf("Move(%d, %q, %d): %d, then %d", kind, text, at, got, again)
		}
	}
}

// holdList holds which way selections move against the words.
func holdList(t *testing.T, kind int, text []rune, l []api.Sel) {
	t.Helper()
	for _, extend := range []bool{false, true} {
		got := All(kind, text, l, extend)
		if want := moved(kind, text, l, extend); !slices.Equal(got, want) {
			t.Fatalf("All(%d, %q, %v, %v): %v, want %v", kind, text, l, extend, got, want)
		}
		if !sels.Is(got, len(text)) {
			t.Fatalf("All(%d, %q, %v, %v): %v, not normal", kind, text, l, extend, got)
		}
	}
}

// eachText calls f with each text of n of those runes.
func eachText(n int, of []rune, f func(text []rune)) {
	text := make([]rune, n)
	var fill func(i int)
	fill = func(i int) {
		if i == n {
			f(text)
			return
		}
		for _, r := range of {
			text[i] = r
			fill(i + 1)
		}
	}
	fill(0)
}

func TestAllShortTexts(t *testing.T) {
	for _, c := range []struct {
		most int
		of   []rune
	}{
		{7, []rune("a \n")},
		{9, []rune("a\n")},
		{9, []rune("_.")},
		{4, []rune{'Z', '[', 127, 128, 10, 13}},
		{4, []rune{'@', 'A', -1, 0x10FFFF, 10}},
	} {
		for n := range c.most + 1 {
			eachText(n, c.of, func(text []rune) {
				for kind := 0; kind <= 11; kind++ {
					for at := -1; at <= n+1; at++ {
						holdPlace(t, kind, text, at)
					}
				}
			})
		}
	}
}

// everySel returns all selections with places from a to b.
func everySel(a, b int) []api.Sel {
	var all []api.Sel
	for anchor := a; anchor <= b; anchor++ {
		for head := a; head <= b; head++ {
			all = append(all, api.Sel{Anchor: anchor, Head: head})
		}
	}
	return all
}

// In short texts all selections, and all pairs of them, are moved.
func TestAllShortLists(t *testing.T) {
	for n := range 5 {
		every := everySel(-1, n+1)
		eachText(n, []rune("a \n"), func(text []rune) {
			for kind := 0; kind <= 11; kind++ {
				for _, s := range every {
					holdList(t, kind, text, []api.Sel{s})
				}
			}
		})
	}
	for n := range 4 {
		every := everySel(0, n)
		eachText(n, []rune("a \n"), func(text []rune) {
			for kind := 0; kind <= 11; kind++ {
				for _, a := range every {
					for _, b := range every {
						holdList(t, kind, text, []api.Sel{a, b})
					}
				}
			}
		})
	}
}

// lot draws numbers, the same ones in each run.
type lot uint64

func (d *lot) draw(n int) int {
	*d = *d*6364136223846793005 + 1442695040888963407
	return int(uint64(*d) >> 33 % uint64(n))
}

// text draws a text of words, gaps and lines, which may be long or short.
func (d *lot) text() []rune {
	kinds := [][]rune{[]rune("abzAZ09_\u0080é漢"), []rune(" .,-/:@[`{\t\r\u007f"), {10}}
	var t []rune
	often := 1 + d.draw(9)
	for range d.draw(14) {
		k := 2
		if d.draw(often) > 0 {
			k = d.draw(2)
		}
		for range 1 + d.draw(4) {
			t = append(t, kinds[k][d.draw(len(kinds[k]))])
		}
	}
	return t
}

func TestDrawnPlaces(t *testing.T) {
	d := lot(12)
	for range 12000 {
		text := d.text()
		for kind := 0; kind <= 11; kind++ {
			for range 4 {
				holdPlace(t, kind, text, d.draw(len(text)+5)-2)
			}
		}
	}
}

func TestDrawnLists(t *testing.T) {
	d := lot(13)
	for range 12000 {
		text := d.text()
		l := make([]api.Sel, d.draw(9))
		for i := range l {
			l[i].Anchor = d.draw(len(text)+7) - 3
			l[i].Head = l[i].Anchor
			if d.draw(2) > 0 {
				l[i].Head += d.draw(9) - 4
			}
		}
		for kind := 0; kind <= 11; kind++ {
			holdList(t, kind, text, l)
		}
	}
}

// P12.2

// Moving once more goes no farther, nor does it for selections.
func TestTwiceIsAsOnce(t *testing.T) {
	d := lot(14)
	for range 4000 {
		text := d.text()
		l := make([]api.Sel, d.draw(6))
		for i := range l {
			l[i] = api.Sel{Anchor: d.draw(len(text) + 1), Head: d.draw(len(text) + 1)}
		}
		for _, kind := range []int{LineStart, LineEnd, Start, End} {
			for at := range len(text) + 1 {
				if once := Move(kind, text, at); Move(kind, text, once) != once {
					t.Fatalf("Move(%d, %q, %d): not as once", kind, text, at)
				}
			}
			once := All(kind, text, l, false)
			if again := All(kind, text, once, false); !slices.Equal(once, again) {
				t.Fatalf("All(%d, %q, %v): %v, then %v", kind, text, l, once, again)
			}
		}
	}
}

// Left undoes Right, and Up undoes Down, where there is room for them.
func TestBackAgain(t *testing.T) {
	text := []rune("abc\nde\n\nfghi\nj")
	for at := range len(text) {
		if got := Move(Left, text, Move(Right, text, at)); got != at {
			t.Errorf("right and left from %d: %d", at, got)
		}
	}
	for _, at := range []int{0, 1, 2, 4, 7} {
		if got := Move(Up, text, Move(Down, text, at)); got != at {
			t.Errorf("down and up from %d: %d", at, got)
		}
	}
}
