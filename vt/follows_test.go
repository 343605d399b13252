package vt

import (
	"slices"
	"strings"
	"testing"

	"stylus/api"
	"stylus/render"
)

// P23.3

// showing returns a terminal that shows a proper grid, and for which nothing waits.
func showing(t *testing.T, g render.Grid) *Term {
	t.Helper()
	x := started(t, g.Rows, g.Columns)
	b, _ := wordsPaint(render.Grid{}, g)
	x.Write([]byte(b))
	if now := x.Grid(); !same(now, g) {
		t.Fatalf("%q: %q", drawn(g), drawn(now))
	}
	return x
}

// holdFollows holds that what Paint returns for two grids leads a terminal from the
// one to the other, in these parts.
func holdFollows(t *testing.T, x *Term, from, to render.Grid, cut func(b []byte) [][]byte) {
	t.Helper()
	b, e := Paint(from, to)
	if e != api.OK {
		t.Fatalf("Paint(%q, %q): %d", drawn(from), drawn(to), e)
	}
	for _, part := range cut(b) {
		x.Write(part)
	}
	if now := x.Grid(); !same(now, to) {
		t.Fatalf("from %q to %q by %q: %q", drawn(from), drawn(to), b, drawn(now))
	}
}

func whole(b []byte) [][]byte {
	return [][]byte{b}
}

func single(b []byte) [][]byte {
	return slices.Collect(slices.Chunk(b, 1))
}

// From each of the grids to each, with a terminal of its own for each pair.
func TestAllPairsAreShown(t *testing.T) {
	for _, side := range [][2]int{{1, 1}, {1, 2}, {2, 1}, {1, 3}, {2, 2}, {3, 1}} {
		l := allProper(side[0], side[1])
		for _, from := range l {
			for _, to := range l {
				holdFollows(t, showing(t, from), from, to, whole)
				holdFollows(t, showing(t, from), from, to, single)
			}
		}
	}
}

// P23.3: where and how the terminal writes does not matter.
func TestShownFromAnyPosition(t *testing.T) {
	l := lot(7)
	for _, side := range [][2]int{{1, 1}, {1, 2}, {3, 4}, {4, 3}, {12, 9}, {60, 60}} {
		for range 60 {
			from := l.grid(side[0], side[1])
			to := l.near(from)
			x := showing(t, from)
			row, column := l.draw(side[0])+1, l.draw(side[1])+1
			x.Write([]byte("\x1b[" + strings.Repeat("0", l.draw(2)) + digits(row) + ";" + digits(column) + "H" + styled[l.draw(8)]))
			if now := x.Grid(); !same(now, from) {
				t.Fatalf("%q became %q", drawn(from), drawn(now))
			}
			holdFollows(t, x, from, to, whole)
		}
	}
}

// digits returns a number of up to two digits.
func digits(n int) string {
	return strings.TrimLeft(string(rune('0'+n/10)), "0") + string(rune('0'+n%10))
}

// One terminal, from grid to grid.
func TestShownStepByStep(t *testing.T) {
	l := lot(11)
	cuts := []func(b []byte) [][]byte{whole, single, func(b []byte) [][]byte {
		var parts [][]byte
		for _, part := range l.cut(string(b)) {
			parts = append(parts, []byte(part))
		}
		return parts
	}}
	for _, side := range [][2]int{{1, 1}, {1, 60}, {60, 1}, {60, 60}, {2, 2}, {3, 7}, {7, 3}, {24, 60}} {
		x := started(t, side[0], side[1])
		now := spaces(side[0], side[1])
		for i := range 120 {
			next := l.near(now)
			if i%10 == 0 {
				next = spaces(side[0], side[1])
			}
			holdFollows(t, x, now, next, cuts[i%3])
			now = next
		}
	}
}

// P23.3: in two parts, cut anywhere

func TestShownInTwoParts(t *testing.T) {
	l := lot(13)
	for range 30 {
		from := l.grid(1+l.draw(3), 1+l.draw(5))
		to := l.near(from)
		for _, before := range []render.Grid{from, {}} {
			b, _ := Paint(before, to)
			for i := range len(b) + 1 {
				holdFollows(t, showing(t, from), before, to, func(b []byte) [][]byte {
					return [][]byte{b[:i], nil, b[i:], {}}
				})
			}
		}
	}
}

// P23.3: from another size, behind Size

func TestShownBehindSize(t *testing.T) {
	l := lot(17)
	sides := [][2]int{{1, 1}, {1, 2}, {2, 1}, {2, 3}, {3, 2}, {6, 6}, {1, 60}, {60, 1}, {60, 60}, {59, 60}}
	for _, a := range sides {
		for _, b := range sides {
			for range 3 {
				from, to := l.grid(a[0], a[1]), l.grid(b[0], b[1])
				for _, cut := range []func(b []byte) [][]byte{whole, single} {
					x := showing(t, from)
					x.Write([]byte("\x1b[7m\x1b[2;2H"))
					if e := x.Size(b[0], b[1]); e != api.OK {
						t.Fatalf("Size(%d, %d): %d", b[0], b[1], e)
					}
					before := from // which is shown no more
					if a == b {
						before = spaces(b[0], b[1])
					}
					holdFollows(t, x, before, to, cut)
					x = showing(t, from)
					x.Size(b[0], b[1])
					holdFollows(t, x, x.Grid(), to, cut)
				}
			}
		}
	}
}

// From the zero grid each grid is shown, whatever there was, in the same size.
func TestShownAnew(t *testing.T) {
	l := lot(19)
	for range 200 {
		from := l.grid(1+l.draw(5), 1+l.draw(7))
		to := l.grid(from.Rows, from.Columns)
		holdFollows(t, showing(t, from), render.Grid{}, to, whole)
		holdFollows(t, showing(t, from), render.Grid{Rows: from.Columns, Columns: from.Rows}, to, single)
	}
}

// What a view becomes is proper, and is shown.
func TestViewsAreShown(t *testing.T) {
	l := lot(29)
	runes := []rune{'a', 'b', '中', '文', 10, 10, 9, 27, 0x301, 127, 133, 0x200B, ' ', 0x1F600, 0xFFFD}
	for range 400 {
		rows, columns := 1+l.draw(8), 1+l.draw(8)
		x := started(t, rows, columns)
		now := x.Grid()
		for range 8 {
			v := render.View{}
			for range l.draw(40) {
				v.Text = append(v.Text, runes[l.draw(len(runes))])
			}
			n := len(v.Text) + 1
			for range 1 + l.draw(3) {
				v.Sels = append(v.Sels, api.Sel{Anchor: l.draw(n), Head: l.draw(n)})
			}
			at := l.draw(n)
			v.Spans = append(v.Spans, api.Span{From: at, To: at + l.draw(n-at)})
			g, e := render.Show(v, rows, columns)
			if e != api.OK || !Proper(g) {
				t.Fatalf("Show(%v): %q, %d", v, drawn(g), e)
			}
			holdFollows(t, x, now, g, whole)
			now = g
		}
	}
}

// What waits takes the first bytes of what Paint returned for its own rest, or is
// broken by them.
func TestPaintedWhileSomethingWaits(t *testing.T) {
	for _, c := range []struct {
		waits            string
		changed, shorter string // behind what Paint returns for grids of the same numbers
		anew             string
	}{
		{"", "cde         ", "c           ", "ab          /170000000000"},
		{"\x1b", "[1;1Hcde    ", "[1;1Hc      ", "abJ         /170000000000"},
		{"\x1b[", "[1;1Hcde    ", "[1;1Hc      ", "abJ         /170000000000"},
		{"\x1b[7", "[1;1Hcde    ", "[1;1Hc      ", "abJ         /170000000000"},
		{"\x1b[7;1", "[1;1Hcde    ", "[1;1Hc      ", "abJ         /170000000000"},
		{"\x1b[" + strings.Repeat("0", 30), "[1;1Hcde    ", "[1;1Hc      ", "abJ         /170000000000"},
		{"\xe4", "cde         ", "c           ", "ab          /170000000000"},
		{"\xe4\xb8", "cde         ", "c\uFFFD          ", "ab          /170000000000"},
		{"\xf0\x9f\x98", "cde         ", "c\uFFFD\uFFFD         ", "ab          /170000000000"},
	} {
		for _, p := range []struct {
			from, to render.Grid
			want     string
		}{
			{grid("   "), grid("cde"), c.changed}, {grid(" "), grid("c"), c.shorter}, {render.Grid{}, grid("ab/17"), c.anew},
		} {
			b, _ := Paint(p.from, p.to)
			for _, cut := range []func(b []byte) [][]byte{whole, single} {
				x := started(t, 1, 12)
				x.Write([]byte(c.waits))
				for _, part := range cut(b) {
					x.Write(part)
				}
				holdRows(t, c.waits, x, p.want)
				to := grid("中_ef     中_g/770000000440")
				holdFollows(t, x, x.Grid(), to, cut) // since now nothing waits
			}
		}
	}
}

// P23.3: bytes in parts

func TestPartsOfSamples(t *testing.T) {
	for _, b := range []string{
		"", "a", "abcdef", "中文a", "a\u00E9\u20AC\U0001F600", "\x1b[H", "\x1b[2;3Hx", "\x1b[7;4mab\x1b[mc", "ab\x1b[2Jc", "\x1b[?25hx", "\x1bQx", "\x1b\x1b[Hx", "\x1b[\x1b[Hx", "\x1b[1;\rHx",
		"\x1b[0000000000000000000000000000000mx", "\x1b[000000000000000000000000000000mx", "\x1b[7\u4E2Dx", "\xe4\xb8\x1b[7mx", "\xf0\x9f\x98a", "\xf0\x9f\x98\x1b[Hx", "\xff\xfe\xc0\x80",
		"\x1b[1;1H\x1b[0;7ma\x1b[0mb中\x1b[2;1H\x1b[0;4;1m文c", "a\x1b[7m\x1b[2", "a\x1b", "a\x1b[", "\x1b[7m\xe4\xb8", "中\x1b[1;2Hx\x1b[H文\xf0\x9f\x98\x80",
	} {
		for i := range len(b) + 1 {
			holdWrite(t, 2, 4, b[:i], b[i:])
			holdWrite(t, 2, 4, "", b[:i], "", b[i:], "")
			for k := i; k <= len(b); k++ {
				holdWrite(t, 2, 4, b[:i], b[i:k], b[k:])
			}
		}
		holdWrite(t, 2, 4, oneByOne(b)...)
	}
}

// What a part is for comes with it, not later.
func TestEffectsComeWithTheirBytes(t *testing.T) {
	l := lot(37)
	for range 300 {
		b := l.drawn(10)
		x := started(t, 2, 6)
		w := newWords(2, 6)
		for i := range len(b) {
			x.Write([]byte(b[i : i+1]))
			w.write(b[i : i+1])
			if now, want := x.Grid(), w.grid(); !same(now, want) {
				t.Fatalf("%q: %q, want %q", b[:i+1], drawn(now), drawn(want))
			}
		}
	}
}

func TestLongInputs(t *testing.T) {
	const n = 100000
	for _, c := range []struct {
		piece string
		want  string
	}{
		{"a", "aaaa"}, {"中", "中_中_"}, {"\x1b", "    "}, {"\x1b[", "[[[["}, {"\x1b[H\x1b[7mx", "x   /1000"}, {"\xff", "\uFFFD\uFFFD\uFFFD\uFFFD"}, {"\x1b[2Jb", "    "}, {"\r\n\x00", "    "}, {"\x1b[1;1H中文\x1b[2;1H", "中_文_"},
	} {
		b := []byte(strings.Repeat(c.piece, n))
		for _, size := range []int{len(b), 1000, 7, 1} {
			x := started(t, 1, 4)
			for part := range slices.Chunk(b, size) {
				x.Write(part)
			}
			if g := x.Grid(); !same(g, grid(c.want)) {
				t.Errorf("%q in parts of %d: %q, want %q", c.piece, size, drawn(g), c.want)
			}
		}
	}
}
