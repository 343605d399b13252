package vt

import (
	"bytes"
	"math"
	"slices"
	"strings"
	"testing"

	"stylus/api"
	"stylus/render"
)

// R1

func TestAnyBytes(t *testing.T) {
	l := lot(1)
	for range 2500 {
		b := make([]byte, l.draw(50))
		for i := range b {
			b[i] = byte(l.draw(256))
		}
		holdWrite(t, 1+l.draw(3), 1+l.draw(9), string(b))
		holdWrite(t, 1+l.draw(3), 1+l.draw(9), l.cut(string(b))...)
	}
}

func TestAnyGrids(t *testing.T) {
	l := lot(2)
	numbers := []int{math.MinInt, math.MinInt + 1, -61, -60, -1, 0, 1, 1, 1, 2, 2, 2, 3, 3, 60, 61, wide(), wide() + 1, math.MaxInt - 1, math.MaxInt}
	runes := []rune{math.MinInt32, -1, 0, 0, 10, 27, 32, 'a', 'a', '中', '中', 127, 0x301, 0xD800, 0x10FFFF, 0x110000, math.MaxInt32}
	draw := func() render.Grid {
		g := render.Grid{Rows: numbers[l.draw(len(numbers))], Columns: numbers[l.draw(len(numbers))], Cells: make([]render.Cell, l.draw(8))}
		for i := range g.Cells {
			g.Cells[i] = render.Cell{Rune: runes[l.draw(len(runes))], Style: l.draw(3)}
			if l.draw(9) == 0 {
				g.Cells[i].Style = numbers[l.draw(len(numbers))]
			}
		}
		if l.draw(2) == 0 {
			g.Rows, g.Columns = 1, len(g.Cells)
		}
		return g
	}
	for range 60000 {
		from, to := draw(), draw()
		holdPaint(t, from, to)
		holdPaint(t, to, from)
		holdPaint(t, to, to)
	}
}

func TestLongLists(t *testing.T) {
	cells := slices.Repeat([]render.Cell{{Rune: '中'}, {}}, 1<<20)
	g := render.Grid{Rows: 2, Columns: 2, Cells: cells}
	holdPaint(t, g, grid("ab", "cd"))
	holdPaint(t, grid("ab", "cd"), g)
	g = render.Grid{Rows: 1 << 10, Columns: 1 << 11, Cells: cells}
	holdPaint(t, g, g)
	holdPaint(t, g, spaces(60, 60))
}

// A terminal that New did not return has no cells until it is given a size.
func TestTerminalWithoutNew(t *testing.T) {
	for _, b := range []string{"", "a", "中", "\x1b[H", "\x1b[9;9Ha", "\x1b[7ma", "\x1b[2Ja", "\xff"} {
		x := &Term{}
		x.Write([]byte(b))
		x.Write([]byte("a中"))
		if g := x.Grid(); !same(g, render.Grid{}) {
			t.Errorf("%q: %v", b, g)
		}
		if e := x.Size(1, 2); e != api.OK {
			t.Errorf("Size: %d", e)
		}
		x.Write([]byte("b"))
		holdRows(t, b, x, "b ")
	}
}

func TestNilAndEmptyLists(t *testing.T) {
	for _, waits := range []string{"", "\x1b", "\x1b[", "\x1b[1;2", "\xe4\xb8", "\xf0"} {
		for _, tail := range tails {
			x, as := started(t, 2, 4), started(t, 2, 4)
			x.Write([]byte("a\x1b[7m" + waits))
			as.Write([]byte("a\x1b[7m" + waits))
			for _, none := range [][]byte{nil, {}, make([]byte, 0, 9), []byte("abc")[:0]} {
				x.Write(none)
				holdRows(t, waits, x, "a   ", "    ")
			}
			x.Write([]byte(tail))
			as.Write([]byte(tail))
			if g, want := x.Grid(), as.Grid(); !same(g, want) {
				t.Errorf("%q behind nothing behind %q: %q, want %q", tail, waits, drawn(g), drawn(want))
			}
		}
	}
	for _, none := range [][]render.Cell{nil, {}, make([]render.Cell, 0, 4), spaces(1, 4).Cells[:0]} {
		for _, side := range [][2]int{{0, 0}, {1, 0}, {0, 1}, {1, 1}, {2, 2}} {
			g := render.Grid{Rows: side[0], Columns: side[1], Cells: none}
			holdPaint(t, g, grid("ab", "cd"))
			holdPaint(t, grid("ab", "cd"), g)
			holdPaint(t, g, g)
		}
	}
}

// R3

// samples end in each kind of what waits.
var samples = []string{
	"", "a", "a中b", "a\x1b[7mb\x1b[2;2Hc", "\x1b[2J", "a\xff\xe4a", "a\x1b", "a\x1b[", "\x1b[7m\x1b[1;", "a\x1b[2", "a\x1b[000000000000000000000000000000", "a\xe4", "a\xe4\xb8", "中\xf0\x9f\x98", "\x1b[7mab\xc3",
}

// endings follow the samples.
var endings = []string{"", "H", "[Hx", "mx", "2Hx", "Jx", "\xb8\xadx", "\xadx", "\x80x", "\xa9", "\x1b[H", "x"}

func TestBytesStayAsTheyAre(t *testing.T) {
	for _, s := range samples {
		for _, ending := range endings {
			x := started(t, 2, 5)
			for _, part := range []string{s, ending, s} {
				all := []byte(part + "ROOM")
				x.Write(all[:len(part)])
				if string(all) != part+"ROOM" {
					t.Errorf("Write(%q): the bytes became %q", part, all)
				}
				x.Write([]byte(ending))
				x.Write([]byte("H\x1b[1;5"))
				x.Size(2, 5)
				if string(all) != part+"ROOM" {
					t.Errorf("%q became %q later", part, all)
				}
			}
		}
	}
}

// The caller changes the bytes that it handed in while some of them wait.
func TestBytesAreNotKept(t *testing.T) {
	for _, s := range samples {
		for _, ending := range endings {
			for cut := range len(s) + 1 {
				x := started(t, 2, 5)
				for _, part := range []string{s[:cut], s[cut:], ending} {
					all := []byte(part + "ROOM")
					x.Write(all[:len(part)])
					for i := range all {
						all[i] = 'z'
					}
				}
				w := newWords(2, 5)
				w.write(s + ending)
				if g, want := x.Grid(), w.grid(); !same(g, want) {
					t.Errorf("Write(%q, %q, %q): %q, want %q", s[:cut], s[cut:], ending, drawn(g), drawn(want))
				}
			}
		}
	}
}

// The same memory is handed in again and again.
func TestSameMemoryForAllParts(t *testing.T) {
	l := lot(8)
	memory := make([]byte, 4)
	for range 2000 {
		b := l.drawn(9)
		x, w := started(t, 2, 5), newWords(2, 5)
		for part := range slices.Chunk([]byte(b), 1+l.draw(4)) {
			n := copy(memory, part)
			x.Write(memory[:n])
		}
		w.write(b)
		if g, want := x.Grid(), w.grid(); !same(g, want) {
			t.Errorf("%q: %q, want %q", b, drawn(g), drawn(want))
		}
	}
}

// No more is kept than what waits.
func TestLittleIsKept(t *testing.T) {
	x := started(t, 1, 1)
	for range 3 {
		for _, waits := range []string{"", "\x1b[000000000000000000000000000000", "\xf0\x9f\x98"} {
			x.Write(append(bytes.Repeat([]byte{'a'}, 1000000), waits...))
			if n := cap(x.waiting); n > 64 || len(x.waiting) != len(waits) {
				t.Errorf("room for %d bytes is kept, and %d are", n, len(x.waiting))
			}
			x.Write([]byte("aaaa"))
		}
	}
}

// spoil writes over all memory of a list.
func spoil(l []render.Cell) {
	l = l[:cap(l)]
	for i := range l {
		l[i] = render.Cell{Rune: -77, Style: -78}
	}
}

// A grid stays as it was returned, and can be changed without the terminal.
func TestGridsAreNewMemory(t *testing.T) {
	l := lot(31)
	for range 60 {
		rows, columns := 1+l.draw(3), 1+l.draw(6)
		x, w := started(t, rows, columns), newWords(rows, columns)
		var kept, copies []render.Grid
		for range 30 {
			b := l.drawn(4)
			x.Write([]byte(b))
			w.write(b)
			if l.draw(10) == 0 {
				x.Size(rows, columns)
				waits := w.waits
				w = newWords(rows, columns)
				w.waits = waits
			}
			spoilt, g := x.Grid(), x.Grid()
			spoil(spoilt.Cells)
			if want := w.grid(); !same(g, want) || !same(x.Grid(), want) {
				t.Fatalf("%q: %q, %q, want %q", b, drawn(g), drawn(x.Grid()), drawn(want))
			}
			kept = append(kept, g)
			copies = append(copies, render.Grid{Rows: g.Rows, Columns: g.Columns, Cells: slices.Clone(g.Cells)})
		}
		for i := range kept {
			if !same(kept[i], copies[i]) {
				t.Fatalf("grid %d: %q, and then %q", i, drawn(copies[i]), drawn(kept[i]))
			}
		}
	}
	// What New and Size start with is not shared either.
	a, b := started(t, 2, 2), started(t, 2, 2)
	spoil(a.Grid().Cells)
	holdRows(t, "new", a, "  ", "  ")
	holdRows(t, "new", b, "  ", "  ")
	b.Size(2, 2)
	spoil(b.Grid().Cells)
	holdRows(t, "behind Size", b, "  ", "  ")
}

// roomy returns a grid whose cells have room behind their end, and all its memory.
func roomy(g render.Grid) (render.Grid, []render.Cell) {
	all := append(slices.Clone(g.Cells), render.Cell{Rune: '中', Style: 3}, render.Cell{Style: 3}, render.Cell{Rune: 'x'})
	g.Cells = all[:len(g.Cells)]
	return g, all
}

// pairs returns grids to be painted from one to the other, some of which are turned down.
func pairs() [][2]render.Grid {
	l := lot(41)
	all := [][2]render.Grid{
		{{}, {}}, {{}, grid("ab")}, {grid("ab"), {}}, {grid("ab"), grid("ab")}, {grid("ab", "cd"), grid("ab", "xd/11")}, {grid("abc"), grid("ab")}, {grid("_a"), grid("中_")}, {grid("中_"), grid("_a")},
		{{Rows: 1, Columns: 3, Cells: grid("ab").Cells}, grid("abc")}, {grid("abc"), {Rows: 1, Columns: 3, Cells: grid("ab").Cells}}, {{Rows: 1, Columns: 2, Cells: grid("abc").Cells}, grid("xy")}, {grid("xy"), {Rows: 1, Columns: 2, Cells: grid("abc").Cells}},
	}
	for range 40 {
		from := l.grid(1+l.draw(4), 1+l.draw(5))
		all = append(all, [2]render.Grid{from, l.near(from)}, [2]render.Grid{from, l.grid(1+l.draw(4), 1+l.draw(5))})
	}
	return all
}

func TestGridsStayAsTheyAre(t *testing.T) {
	for _, p := range pairs() {
		from, allFrom := roomy(p[0])
		to, allTo := roomy(p[1])
		beforeFrom, beforeTo := slices.Clone(allFrom), slices.Clone(allTo)
		for range 2 {
			Proper(from)
			Proper(to)
			Paint(from, to)
			Paint(to, from)
			Paint(from, from)
			holdPaint(t, from, to) // nor is what stands behind the end looked at
			holdPaint(t, to, from)
		}
		if !slices.Equal(allFrom, beforeFrom) || !slices.Equal(allTo, beforeTo) {
			t.Errorf("%v: became %v and %v", p, allFrom, allTo)
		}
	}
}

func TestPaintedBytesAreNewMemory(t *testing.T) {
	for _, p := range pairs() {
		from, to := render.Grid{Rows: p[0].Rows, Columns: p[0].Columns, Cells: slices.Clone(p[0].Cells)}, render.Grid{Rows: p[1].Rows, Columns: p[1].Columns, Cells: slices.Clone(p[1].Cells)}
		one, _ := Paint(from, to)
		two, _ := Paint(from, to)
		want, _ := wordsPaint(p[0], p[1])
		one = one[:cap(one)]
		for i := range one {
			one[i] = '!'
		}
		spoil(from.Cells)
		spoil(to.Cells)
		if string(two) != want {
			t.Errorf("%v: became %q, want %q", p, two, want)
		}
		holdPaint(t, p[0], p[1])
	}
}

// R4

func TestSameCallsGiveTheSame(t *testing.T) {
	run := func() []string {
		var got []string
		l := lot(44)
		x := started(t, 3, 8)
		before := x.Grid()
		for range 1500 {
			x.Write([]byte(l.drawn(3)))
			now := x.Grid()
			b, e := Paint(before, now)
			if e != api.OK || !Proper(now) {
				t.Fatalf("Paint(%q, %q): %d", drawn(before), drawn(now), e)
			}
			before = now
			got = append(got, strings.Join(drawn(now), "|"), string(b))
		}
		return got
	}
	first := run()
	for range 4 {
		if got := run(); !slices.Equal(got, first) {
			t.Fatal("another run gives something else")
		}
	}
}

func TestCallsDoNotDependOnOthers(t *testing.T) {
	var first []string
	for _, p := range pairs() {
		b, e := Paint(p[0], p[1])
		first = append(first, string(b)+string(rune('0'+e)))
	}
	next := len(first)
	for _, p := range slices.Backward(pairs()) {
		next--
		x := started(t, 1, 3)
		x.Write([]byte("\x1b[7;4;1mabc\x1b[" + first[next]))
		if b, e := Paint(p[0], p[1]); string(b)+string(rune('0'+e)) != first[next] {
			t.Errorf("%v: %q, %d, then %q", p, b, e, first[next])
		}
	}
}
