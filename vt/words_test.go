package vt

import (
	"fmt"
	"regexp"
	"slices"
	"strconv"
	"strings"
	"sync"
	"testing"
	"unicode/utf8"

	"stylus/api"
	"stylus/render"
	"stylus/width"
)

// Below, what is proper, what is painted, and what a terminal does is told by the
// chapter's words alone.

func wordsProper(g render.Grid) bool {
	if g.Rows < 1 || g.Rows > 60 || g.Columns < 1 || g.Columns > 60 || len(g.Cells) != g.Rows*g.Columns {
		return false
	}
	for i, c := range g.Cells {
		first, last := i%g.Columns == 0, (i+1)%g.Columns == 0
		switch {
		case c.Style < 0 || c.Style >= 8:
			return false
		case c.Rune == 0:
			if first || width.Of(g.Cells[i-1].Rune) != 2 || g.Cells[i-1].Style != c.Style {
				return false
			}
		case !utf8.ValidRune(c.Rune) || c.Rune < 32 || c.Rune >= 127 && c.Rune <= 159 || width.Of(c.Rune) == 0:
			return false
		case width.Of(c.Rune) == 2:
			if last || g.Cells[i+1].Rune != 0 {
				return false
			}
		}
	}
	return true
}

// wordsStyles are the bytes for each style.
var wordsStyles = [8]string{
	"\x1b[0m", "\x1b[0;7m", "\x1b[0;4m", "\x1b[0;7;4m", "\x1b[0;1m", "\x1b[0;7;1m", "\x1b[0;4;1m", "\x1b[0;7;4;1m",
}

func wordsPaint(from, to render.Grid) (string, api.Errno) {
	if !wordsProper(to) {
		return "", 1
	}
	var s strings.Builder
	all := [3]int{from.Rows, from.Columns, len(from.Cells)} != [3]int{to.Rows, to.Columns, len(to.Cells)}
	if all {
		s.WriteString("\x1b[2J")
	}
	for row := range to.Rows {
		differs := all
		for column := range to.Columns {
			i := row*to.Columns + column
			differs = differs || from.Cells[i] != to.Cells[i]
		}
		if differs {
			s.WriteString(wordsRow(row+1, to.Cells[row*to.Columns:][:to.Columns]))
		}
	}
	return s.String(), 0
}

func wordsRow(number int, cells []render.Cell) string {
	s := fmt.Sprintf("\x1b[%d;1H", number)
	for i, c := range cells {
		if c.Rune == 0 {
			continue // it has the style of the cell ahead of it, which was written
		}
		if i == 0 || cells[i-1].Style != c.Style {
			s += wordsStyles[c.Style]
		}
		s += string(c.Rune)
	}
	return s
}

// wordsCell is a cell that is not a space of style 0: one of a narrow rune, or the
// left or the right half of a wide one.
type wordsCell struct {
	r           rune
	style       int
	left, right bool
}

// wordsTerm counts rows and columns from 1 on.
type wordsTerm struct {
	rows, columns               int
	row, column                 int
	cells                       map[[2]int]wordsCell
	inverted, underlined, heavy bool
	waits                       string
}

func newWords(rows, columns int) *wordsTerm {
	return &wordsTerm{rows: rows, columns: columns, row: 1, column: 1, cells: map[[2]int]wordsCell{}}
}

// The chapter's words, as patterns of texts that have a rune for each byte.
var (
	wordsDone    = regexp.MustCompile(`^\x1b\[([ -?]{0,30})([@-~])`)
	wordsBroken  = regexp.MustCompile(`^\x1b\[(?:[ -?]{31}|[ -?]{0,30}[^ -~])`)
	wordsOther   = regexp.MustCompile(`^\x1b[^\[]`)
	wordsNumbers = regexp.MustCompile(`^([0-9]+(;[0-9]+)*)?$`)
)

func (w *wordsTerm) write(b string) {
	w.waits += b
	for n := w.read(); n > 0; n = w.read() {
		w.waits = w.waits[n:]
	}
}

// read does what comes first, and tells its number of bytes; 0 if it waits.
func (w *wordsTerm) read() int {
	var text strings.Builder
	for _, c := range []byte(w.waits[:min(len(w.waits), 40)]) {
		text.WriteRune(rune(c))
	}
	s := text.String()
	if m := wordsDone.FindStringSubmatch(s); m != nil {
		w.sequence(m[1], m[2])
		return len(m[0])
	}
	if n := utf8.RuneCountInString(wordsBroken.FindString(s) + wordsOther.FindString(s)); n > 0 {
		return n
	}
	switch {
	case s == "" || s[0] == 27:
		return 0
	case s[0] < 32 || s[0] == 127:
		return 1
	}
	r, n := wordsRune(w.waits)
	if n > 0 {
		w.put(r)
	}
	return n
}

// wordsBegins has the first bytes of the runes that have more of them.
var wordsBegins = sync.OnceValue(func() map[string]bool {
	begins := map[string]bool{}
	for r := rune(128); r <= 0x10FFFF; r += 64 {
		if utf8.ValidRune(r) {
			s := string(r)
			for n := 1; n < len(s); n++ {
				begins[s[:n]] = true
			}
		}
	}
	return begins
})

func wordsRune(b string) (rune, int) {
	for n := 1; n <= min(4, len(b)); n++ {
		if l := []rune(b[:n]); len(l) == 1 && utf8.ValidString(b[:n]) {
			return l[0], n
		}
	}
	if len(b) < 4 && wordsBegins()[b] {
		return 0, 0
	}
	return 0xFFFD, 1
}

func (w *wordsTerm) sequence(ahead, last string) {
	if !wordsNumbers.MatchString(ahead) {
		return
	}
	var l []int
	for _, digits := range strings.FieldsFunc(ahead, func(r rune) bool { return r == ';' }) {
		n, _ := strconv.Atoi(digits)
		if len(digits) > 3 {
			n = 999
		}
		l = append(l, n)
	}
	switch last {
	case "H":
		l = append(l, 1, 1)
		w.row, w.column = min(max(l[0], 1), w.rows), min(max(l[1], 1), w.columns)
	case "m":
		if len(l) == 0 {
			l = []int{0}
		}
		for _, n := range l {
			w.inverted = n == 7 || w.inverted && n != 0
			w.underlined = n == 4 || w.underlined && n != 0
			w.heavy = n == 1 || w.heavy && n != 0
		}
	case "J":
		if slices.Equal(l, []int{2}) {
			w.cells = map[[2]int]wordsCell{}
		}
	}
}

func (w *wordsTerm) style() int {
	style := 0
	for i, is := range []bool{w.inverted, w.underlined, w.heavy} {
		if is {
			style += []int{1, 2, 4}[i]
		}
	}
	return style
}

func (w *wordsTerm) put(r rune) {
	n := width.Of(r)
	left := w.columns + 1 - w.column
	if r >= 128 && r <= 159 || n == 0 || n > left {
		return
	}
	for k := w.column; k < w.column+n; k++ {
		switch c := w.cells[[2]int{w.row, k}]; {
		case c.left:
			delete(w.cells, [2]int{w.row, k + 1})
		case c.right:
			delete(w.cells, [2]int{w.row, k - 1})
		}
	}
	w.cells[[2]int{w.row, w.column}] = wordsCell{r, w.style(), n == 2, false}
	if n == 2 {
		w.cells[[2]int{w.row, w.column + 1}] = wordsCell{0, w.style(), false, true}
	}
	w.column += n
}

func (w *wordsTerm) grid() render.Grid {
	g := render.Grid{Rows: w.rows, Columns: w.columns}
	for row := 1; row <= w.rows; row++ {
		for column := 1; column <= w.columns; column++ {
			c, is := w.cells[[2]int{row, column}]
			if !is {
				c.r = 32
			}
			g.Cells = append(g.Cells, render.Cell{Rune: c.r, Style: c.style})
		}
	}
	return g
}

func same(a, b render.Grid) bool {
	return a.Rows == b.Rows && a.Columns == b.Columns && slices.Equal(a.Cells, b.Cells)
}

// tails tell what waits, and where and how a terminal writes.
var tails = []string{"", "xy\x1b[Hz", "Hx", "mx\x1b[Hz", "Jx", "\xadxy", "\x80x", "2Jx"}

// holdWrite holds that parts give what the words say of all their bytes, and so
// does what is written behind them.
func holdWrite(t *testing.T, rows, columns int, parts ...string) {
	t.Helper()
	all := strings.Join(parts, "")
	for _, tail := range tails {
		x := started(t, rows, columns)
		for _, part := range parts {
			x.Write([]byte(part))
		}
		w := newWords(rows, columns)
		w.write(all)
		if got, want := x.Grid(), w.grid(); !same(got, want) {
			t.Fatalf("Write(%q) of %d by %d: %q, want %q", parts, rows, columns, drawn(got), drawn(want))
		}
		x.Write([]byte(tail))
		w.write(tail)
		if got, want := x.Grid(), w.grid(); !same(got, want) {
			t.Fatalf("Write(%q), and %q, of %d by %d: %q, want %q", parts, tail, rows, columns, drawn(got), drawn(want))
		}
	}
}

// holdPaint holds Proper and Paint by the words.
func holdPaint(t *testing.T, from, to render.Grid) {
	t.Helper()
	if got, want := Proper(to), wordsProper(to); got != want {
		t.Fatalf("Proper(%v): %v", to, got)
	}
	b, e := Paint(from, to)
	if want, f := wordsPaint(from, to); string(b) != want || e != f {
		t.Fatalf("Paint(%v, %v): %q, %d, want %q, %d", from, to, b, e, want, f)
	}
}

// lot draws numbers, the same ones in each run.
type lot uint64

func (l *lot) draw(n int) int {
	*l = *l*6364136223846793005 + 1442695040888963407
	return int(uint64(*l) >> 33 % uint64(n))
}

// pieces are what drawn bytes consist of.
var pieces = []string{
	"\x1b", "\x1b[", "\x1b[1;", "\x1b[H", "\x1b[2;2H", "\x1b[1;3H", "\x1b[3H", "\x1b[9;4H", "\x1b[0;0H", "\x1b[m", "\x1b[7m", "\x1b[4;1m", "\x1b[0;7m", "\x1b[1m", "\x1b[2J", "\x1b[J",
	"\x1b[?25h", "\x1b[K", "\x1b[1;;2H", "\x1b\x1b", "\x1bQ", "\x1b[0000", "00000000", "1;2", ";", "7", "2", "H", "m", "J", "?", "@",
	"a", "b", "ab", "中", "中", "文文", "\u00E9", "\u20AC", "\U0001F600", "\u0301", "\u0085", "\u200B", "\xe4\xb8", "\xad", "\xf0\x9f", "\x98\x80", "\xed\xa0", "\xff", "\r", "\n", "\x7f", "\x00",
}

// drawn returns bytes that consist of up to n pieces.
func (l *lot) drawn(n int) string {
	var b []byte
	for range l.draw(n + 1) {
		if l.draw(9) == 0 {
			b = append(b, byte(l.draw(256)))
		} else {
			b = append(b, pieces[l.draw(len(pieces))]...)
		}
	}
	return string(b)
}

// cut returns bytes in parts, some of them empty.
func (l *lot) cut(b string) []string {
	var parts []string
	for len(b) > 0 {
		n := l.draw(min(len(b), 6) + 1)
		parts, b = append(parts, b[:n]), b[n:]
	}
	return parts
}

// texts calls f with all texts of up to n of some bytes.
func texts(of string, n int, f func(b string)) {
	var fill func(b string)
	fill = func(b string) {
		f(b)
		if len(b) < n {
			for i := range len(of) {
				fill(b + of[i:i+1])
			}
		}
	}
	fill("")
}

// P23.2

func TestAllSmallTexts(t *testing.T) {
	for _, c := range []struct {
		of string
		n  int
	}{
		{"\x1b[2;Hx", 5},
		{"\x1b[7;m\xe4\xb8", 4},
		{"\x1b[2Jx0", 5},
		{"\x1b\xe4\xb8\xad", 5},
		{"\xf0\x9f\x98\x80a", 5},
		{"\xed\x9f\xa0\xbf", 5},
		{"\xf4\x8f\x90\x80", 5},
		{"\x1b[", 8},
	} {
		texts(c.of, c.n, func(b string) {
			holdWrite(t, 2, 3, b)
		})
	}
}

// All texts of some bytes ahead of the last one of a sequence.
func TestAllSmallNumbers(t *testing.T) {
	for _, c := range []struct {
		of string
		n  int
	}{
		{"0123", 4}, {"02;", 5}, {"147", 3}, {"17;0", 4}, {"1;?", 4}, {"0;", 7}, {" :<=>/9", 3},
	} {
		texts(c.of, c.n, func(b string) {
			for _, last := range "HmJK" {
				holdWrite(t, 3, 4, "\x1b[2;2H\x1b[4mab\x1b[2;2H\x1b["+b+string(last))
			}
		})
	}
}

// Each two bytes, alone and behind what begins sequences.
func TestEachTwoBytes(t *testing.T) {
	for _, head := range []string{"", "\x1b", "\x1b[", "\x1b[2", "\xe4", "\xf0\x9f"} {
		for a := range 256 {
			for b := range 256 {
				x, w := started(t, 1, 5), newWords(1, 5)
				text := head + string([]byte{byte(a), byte(b)}) + "\xad2x\x1b[Hy"
				x.Write([]byte(text))
				w.write(text)
				if got, want := x.Grid(), w.grid(); !same(got, want) {
					t.Fatalf("Write(%q): %q, want %q", text, drawn(got), drawn(want))
				}
			}
		}
	}
}

func TestDrawnBytes(t *testing.T) {
	l := lot(23)
	for range 6000 {
		b := l.drawn(14)
		rows, columns := 1+l.draw(4), 1+l.draw(6)
		holdWrite(t, rows, columns, b)
		holdWrite(t, rows, columns, l.cut(b)...)
	}
	for range 40 {
		b := l.drawn(800)
		rows, columns := 1+l.draw(60), 1+l.draw(60)
		holdWrite(t, rows, columns, b)
		holdWrite(t, rows, columns, l.cut(b)...)
	}
}

// A terminal that is written to, and given other sizes, many times.
func TestDrawnSteps(t *testing.T) {
	l := lot(3)
	for range 400 {
		rows, columns := 1+l.draw(3), 1+l.draw(7)
		x, w := started(t, rows, columns), newWords(rows, columns)
		for range 60 {
			if l.draw(12) == 0 {
				rows, columns = 1+l.draw(3), 1+l.draw(7)
				if e := x.Size(rows, columns); e != api.OK {
					t.Fatalf("Size(%d, %d): %d", rows, columns, e)
				}
				waits := w.waits
				w = newWords(rows, columns)
				w.waits = waits
			} else {
				b := l.drawn(4)
				x.Write([]byte(b))
				w.write(b)
			}
			if got, want := x.Grid(), w.grid(); !same(got, want) || !wordsProper(got) {
				t.Fatalf("%q, want %q", drawn(got), drawn(want))
			}
		}
	}
}
