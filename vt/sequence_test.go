package vt

import (
	"fmt"
	"slices"
	"strconv"
	"strings"
	"testing"

	"stylus/render"
)

// sample is what a new terminal, of as many rows and columns, shows behind bytes.
type sample struct {
	bytes string
	want  []string
}

func shows(bytes string, want ...string) sample {
	return sample{bytes, want}
}

// holdSamples holds samples, written at once, byte by byte, and in two parts cut
// anywhere, with calls with no bytes between.
func holdSamples(t *testing.T, samples []sample) {
	t.Helper()
	for _, c := range samples {
		want := grid(c.want...)
		hold := func(parts ...string) {
			t.Helper()
			x := started(t, want.Rows, want.Columns)
			for _, part := range parts {
				x.Write([]byte(part))
				x.Write(nil)
			}
			if g := x.Grid(); !same(g, want) {
				t.Errorf("%q: %q, want %q", parts, drawn(g), c.want)
			}
		}
		hold(c.bytes)
		hold(oneByOne(c.bytes)...)
		for i := range len(c.bytes) + 1 {
			hold(c.bytes[:i], c.bytes[i:])
		}
		holdWrite(t, want.Rows, want.Columns, c.bytes)
	}
}

// oneByOne returns bytes in parts of one.
func oneByOne(b string) []string {
	var parts []string
	for i := range len(b) {
		parts = append(parts, b[i:i+1])
	}
	return parts
}

// P23.2: H

// position is a spelling of numbers, and the row and the column that they mean in
// a terminal without an end, from 1 on.
type position struct {
	spelt       string
	row, column int
}

func positions() []position {
	l := []position{
		{"", 1, 1}, {"1", 1, 1}, {"2", 2, 1}, {"0", 1, 1}, {"3;4;5", 3, 4}, {"2;3;1;1", 2, 3}, {"0;0;9", 1, 1}, {"4;2;0;0;0", 4, 2}, {"2;2;1000;0001", 2, 2},
	}
	numbers := []struct {
		spelt string
		means int
	}{
		{"0", 1}, {"1", 1}, {"2", 2}, {"3", 3}, {"4", 4}, {"5", 5}, {"6", 6}, {"7", 7}, {"9", 9}, {"10", 10}, {"11", 11}, {"59", 59}, {"60", 60}, {"61", 61}, {"99", 99}, {"100", 100}, {"256", 256}, {"257", 257}, {"999", 999},
		{"00", 1}, {"000", 1}, {"01", 1}, {"001", 1}, {"02", 2}, {"002", 2}, {"03", 3}, {"060", 60}, {"010", 10},
		{"0000", 999}, {"0001", 999}, {"0002", 999}, {"1000", 999}, {"1001", 999}, {"9999", 999}, {"00000", 999}, {"000000000002", 999}, {"65537", 999},
		{"4294967297", 999}, {"2147483649", 999}, {"9999999999", 999}, {"00000000000001", 999},
	}
	for _, a := range numbers {
		l = append(l, position{a.spelt, a.means, 1})
		for _, b := range numbers {
			l = append(l, position{a.spelt + ";" + b.spelt, a.means, b.means})
		}
	}
	for _, a := range []string{"18446744073709551617", "4294967297000000000000000000", "111111111111111111111111111111", "000000000000000000000000000001"} {
		l = append(l, position{a, 999, 1})
	}
	l = append(l, position{"1;2;3;4;5;6;7;8;9;1;2;3;4;5;60", 1, 2}, position{"2;0000000000000000000000000003", 2, 999}, position{"0000000000000000000000000003;2", 999, 2})
	return l
}

func TestPositions(t *testing.T) {
	for _, side := range [][2]int{{1, 1}, {1, 60}, {60, 1}, {60, 60}, {3, 5}, {9, 10}, {10, 9}, {59, 2}} {
		rows, columns := side[0], side[1]
		for _, p := range positions() {
			x := started(t, rows, columns)
			x.Write([]byte("\x1b[7m\x1b[" + p.spelt + "Hx"))
			want := spaces(rows, columns)
			want.Cells[(min(p.row, rows)-1)*columns+min(p.column, columns)-1] = render.Cell{Rune: 'x', Style: 1}
			if g := x.Grid(); !same(g, want) {
				t.Fatalf("%qH in %d by %d: %q", p.spelt, rows, columns, drawn(g))
			}
		}
	}
}

// Each number that there is, as a row and as a column.
func TestEachPosition(t *testing.T) {
	for n := range 1100 {
		means := max(1, min(n, 60))
		if n > 999 {
			means = 60
		}
		for _, spelt := range []string{strconv.Itoa(n), fmt.Sprintf("%03d", n)} {
			x := started(t, 60, 60)
			x.Write([]byte("\x1b[" + spelt + ";2Hx\x1b[3;" + spelt + "Hy"))
			want := spaces(60, 60)
			want.Cells[(means-1)*60+1].Rune = 'x'
			want.Cells[2*60+means-1].Rune = 'y'
			if g := x.Grid(); !same(g, want) {
				t.Fatalf("%q: %q", spelt, drawn(g))
			}
		}
	}
}

func TestPositionSamples(t *testing.T) {
	holdSamples(t, []sample{
		shows("abcd\x1b[Hx", "xbc", "   "),
		shows("\x1b[2;3Hx\x1b[Hy", "y  ", "  x"),
		shows("\x1b[2Hx", "   ", "x  "),
		shows("ab\x1b[1;2Hx", "ax ", "   "),
		shows("\x1b[2;2Hxyz", "   ", " xy"),
		shows("\x1b[2;2;1Hx", "   ", " x "),
		shows("\x1b[2;4Hx", "   ", "  x"),
		shows("\x1b[3;3Hx", "   ", "  x"),
		shows("\x1b[0Hx", "x  ", "   "),
		shows("\x1b[0;3Hx", "  x", "   "),
		shows("\x1b[2;0Hx", "   ", "x  "),
		shows("\x1b[02;002Hx", "   ", " x "),
		shows("\x1b[1;0001Hx", "  x", "   "),
		shows("\x1b[0001;1Hx", "   ", "x  "),
		shows("abc\x1b[2;2H\x1b[1;1Hx\x1b[1;3Hy", "xby", "   "),
		shows("\x1b[2;3Hx\x1b[2;3Hy", "   ", "  y"),
		shows("\x1b[4m\x1b[2;1Hx\x1b[Hy", "y  /200", "x  /200"),
		shows("a\x1b[2;2h\x1b[2;2fb", "ab ", "   "),
	})
}

// P23.2: m

// behindNumber is the style behind a number, as a text of digits.
func behindNumber(style int, spelt string) int {
	switch spelt {
	case "0", "00", "000":
		return 0
	case "7", "07", "007":
		return style | 1
	case "4", "04", "004":
		return style | 2
	case "1", "01", "001":
		return style | 4
	}
	return style
}

// styled are the bytes behind which a terminal has a style.
var styled = [8]string{"", "\x1b[7m", "\x1b[4m", "\x1b[7m\x1b[4m", "\x1b[1m", "\x1b[1;7m", "\x1b[1;4m", "\x1b[4;1;7m"}

func holdStyle(t *testing.T, b string, want int) {
	t.Helper()
	x := started(t, 1, 4)
	x.Write([]byte(b + "a中b"))
	cells := []render.Cell{{Rune: 'a', Style: want}, {Rune: '中', Style: want}, {Style: want}, {Rune: 'b', Style: want}}
	if g := x.Grid(); !slices.Equal(g.Cells, cells) {
		t.Errorf("%q: %q, want the style %d", b, drawn(g), want)
	}
}

func TestStyleOfNoNumber(t *testing.T) {
	for style, b := range styled {
		holdStyle(t, b, style)
		holdStyle(t, b+"\x1b[m", 0)
		holdStyle(t, b+"\x1b[m\x1b[4m", 2)
	}
}

func TestStyleOfEachNumber(t *testing.T) {
	for style, b := range styled {
		for n := range 1010 {
			spelt := strconv.Itoa(n)
			holdStyle(t, b+"\x1b["+spelt+"m", behindNumber(style, spelt))
		}
		for _, n := range []string{"00", "000", "0000", "00000", "07", "007", "0007", "04", "004", "0004", "01", "001", "0001", "00000000000000000000000000001", "4294967296", "4294967303", "18446744073709551617", "256", "260", "65540", "1000", "7000", "70", "47", "14", "17", "010"} {
			holdStyle(t, b+"\x1b["+n+"m", behindNumber(style, n))
		}
	}
}

func TestStyleOfSeveralNumbers(t *testing.T) {
	l := []string{"0", "1", "4", "7", "2", "9", "22", "27", "00", "07", "004", "0001", "999"}
	for style, b := range styled {
		for _, one := range l {
			for _, two := range l {
				second := behindNumber(behindNumber(style, one), two)
				holdStyle(t, b+"\x1b["+one+";"+two+"m", second)
				holdStyle(t, b+"\x1b["+one+"m\x1b["+two+"m", second)
				for _, three := range l {
					holdStyle(t, b+"\x1b["+one+";"+two+";"+three+"m", behindNumber(second, three))
				}
			}
		}
		holdStyle(t, b+"\x1b[7;7;7m", style|1)
		holdStyle(t, b+"\x1b[4;4m\x1b[4m", style|2)
		holdStyle(t, b+"\x1b[1;1;1;1m", style|4)
		holdStyle(t, b+"\x1b[1;4;7;0m", 0)
		holdStyle(t, b+"\x1b[1;4;0;7m", 1)
		holdStyle(t, b+"\x1b[0;1;4;7m", 7)
		holdStyle(t, b+"\x1b[7;4;1;7;4;1;7;4;1;7;4;1;7;4;1m", 7)
		holdStyle(t, b+"\x1b[7;4;1;7;4;1;7;4;1;7;4;1;7;4;0m", 0)
	}
}

func TestStyleSamples(t *testing.T) {
	holdSamples(t, []sample{
		shows("a\x1b[7mb\x1b[4mc\x1b[1md\x1b[me", "abcde/01370"),
		shows("\x1b[1ma\x1b[0mb\x1b[4;1mc\x1b[0;7md", "abcd/4061"),
		shows("\x1b[7m", "   "),
		shows("ab\x1b[7m\x1b[1;1Hc", "cb /100"),
		shows("\x1b[7mab\x1b[m\x1b[1;1Hc", "cb /010"),
		shows("\x1b[7m\r\n\x00\x7f\x1bQ\x1b[?25hab", "ab /110"),
		shows("\x1b[7m\u0301\u0085a", "a /10"),
	})
}

// A style stays from one call to the next.
func TestStyleStays(t *testing.T) {
	x := started(t, 2, 5)
	for _, c := range []struct {
		b    string
		want []string
	}{
		{"\x1b[7m", []string{"     ", "     "}},
		{"", []string{"     ", "     "}},
		{"a", []string{"a    /10000", "     "}},
		{"b\x1b[4", []string{"ab   /11000", "     "}},
		{"mc", []string{"abc  /11300", "     "}},
		{"\x1b[2;5H", []string{"abc  /11300", "     "}},
		{"d", []string{"abc  /11300", "    d/00003"}},
		{"\x1b[2J", []string{"     ", "     "}},
		{"e", []string{"     ", "     "}},
		{"\x1b[H", []string{"     ", "     "}},
		{"f", []string{"f    /30000", "     "}},
		{"\x1b[1m", []string{"f    /30000", "     "}},
		{"中", []string{"f中_  /37700", "     "}},
		{"\x1b[0", []string{"f中_  /37700", "     "}},
		{";1mg", []string{"f中_g /37740", "     "}},
	} {
		x.Write([]byte(c.b))
		holdRows(t, c.b, x, c.want...)
	}
}

// P23.2: J

func TestWipeSamples(t *testing.T) {
	holdSamples(t, []sample{
		shows("abcd\x1b[2;1Hef\x1b[2J", "    ", "    "),
		shows("ab\x1b[2Jc", "  c ", "    "),
		shows("\x1b[2;2Hab\x1b[2Jc", "    ", "   c"),
		shows("\x1b[7mab\x1b[2Jc", "  c /0010", "    "),
		shows("\x1b[7ma中b\x1b[2J\x1b[Hc", "c   /1000", "    "),
		shows("a中\x1b[2J\x1b[1;3Hx", "  x ", "    "),
		shows("a中\x1b[2J\x1b[1;2Hx", " x  ", "    "),
		shows("abcd\x1b[2Jx\x1b[Hy", "y   ", "    "),
		shows("\x1b[2J", "    ", "    "),
		shows("ab\x1b[2J\x1b[2J", "    ", "    "),
		shows("ab\x1b[02J", "    ", "    "),
		shows("ab\x1b[002J", "    ", "    "),
		shows("ab\x1b[0002J", "ab  ", "    "),
		shows("ab\x1b[J", "ab  ", "    "),
		shows("ab\x1b[2;2Jc", "abc ", "    "),
		shows("ab\x1b[2;Jc", "abc ", "    "),
		shows("ab\x1b[;2Jc", "abc ", "    "),
		shows("ab\x1b[2;0Jc", "abc ", "    "),
		shows("ab\x1b[0;2Jc", "abc ", "    "),
		shows("ab\x1b[?2Jc", "abc ", "    "),
		shows("ab\x1b[2 Jc", "abc ", "    "),
		shows("ab\x1b[2jc", "abc ", "    "),
		shows("ab\x1b[2Kc", "abc ", "    "),
	})
}

func TestWipeOfEachNumber(t *testing.T) {
	for n := range 1010 {
		x := started(t, 2, 3)
		x.Write([]byte("a中\x1b[2;2H\x1b[4m\x1b[" + strconv.Itoa(n) + "Jx"))
		if n == 2 {
			holdRows(t, "2", x, "   ", " x /020")
		} else {
			holdRows(t, strconv.Itoa(n), x, "a中_", " x /020")
		}
	}
	for _, n := range []string{"", "00", "000", "022", "20", "200", "0002", "00002", "2000", "4294967298", "18446744073709551618", "000000000000000000000000000002", "2;2;2", "1;2", "2;1", "2;02", "2;2;2;2;2;2;2;2;2;2;2;2;2;2;2"} {
		x := started(t, 2, 3)
		x.Write([]byte("a中\x1b[2;2H\x1b[4m\x1b[" + n + "Jx"))
		holdRows(t, n, x, "a中_", " x /020")
	}
}

// P23.2: numbers that are none

// holdNone holds that bytes have no effect on a terminal that shows something, and
// has a position and a style: what is written behind them is as without them.
func holdNone(t *testing.T, b string) {
	t.Helper()
	for _, ahead := range []string{"", "a中\x1b[7mb\x1b[2;2Hc\x1b[4m"} {
		x := started(t, 3, 5)
		x.Write([]byte(ahead))
		before := x.Grid()
		x.Write([]byte(b))
		if g := x.Grid(); !same(g, before) {
			t.Errorf("%q behind %q: %q", b, ahead, drawn(g))
		}
		x.Write([]byte("2J"))
		if ahead == "" {
			holdRows(t, b, x, "2J   ", "     ", "     ")
		} else {
			holdRows(t, b, x, "a中_b /00010", " c2J /01330", "     ")
		}
	}
}

func TestMisplacedSemicolons(t *testing.T) {
	for _, last := range []string{"H", "m", "J"} {
		for _, b := range []string{
			";", ";;", ";;;", "2;", ";2", "0;", ";0", "7;", ";7", "2;;2", "2;;", ";;2", ";2;", "2;2;", ";2;2", "7;;4", "7;;", "1;4;", ";1;4", "1;;4;7", "1;4;;7",
			"2;2;2;2;", ";;;;;;;;;;;;;;;;;;;;;;;;;;;;;;", "2;2;2;2;2;2;2;2;2;2;2;2;2;2;2;", ";2;2;2;2;2;2;2;2;2;2;2;2;2;2;2",
		} {
			holdNone(t, "\x1b["+b+last)
		}
	}
}

func TestOtherBytesInNumbers(t *testing.T) {
	for c := byte(32); c <= 63; c++ {
		if c >= '0' && c <= '9' || c == ';' {
			continue
		}
		s := string(rune(c))
		for _, n := range []string{"2", "7", "1", "02", "2;2", "3;1", "7;4", "0;0", "1000"} {
			for _, last := range []string{"H", "m", "J"} {
				holdNone(t, "\x1b["+s+last)
				holdNone(t, "\x1b["+s+s+last)
				holdNone(t, "\x1b["+s+n+last)
				holdNone(t, "\x1b["+n+s+last)
				holdNone(t, "\x1b["+n+s+n+last)
				holdNone(t, "\x1b["+n+s+";"+n+last)
				holdNone(t, "\x1b["+n+";"+s+n+last)
				holdNone(t, "\x1b["+n+";"+n+s+last)
				holdNone(t, "\x1b["+n+";"+s+last)
				holdNone(t, "\x1b["+s+";"+n+last)
				holdNone(t, "\x1b["+n+";"+s+";"+n+last)
			}
		}
		holdNone(t, "\x1b[1;2;3;4"+s+"H")
		holdNone(t, "\x1b[7;4;1;"+s+"0m")
		holdNone(t, "\x1b[2;2;2;2;2;2;2;2;2;2;2;2;2;2"+s+"2H")
	}
}

// P23.2: last bytes

func TestEachLastByte(t *testing.T) {
	for c := 64; c <= 126; c++ {
		last := string(rune(c))
		if strings.Contains("HmJ", last) {
			continue
		}
		for _, n := range []string{"", "0", "1", "2", "7", "02", "2;2", "7;4", "1;4;7", "?25", ";", "2;", "1000", " ", "!", strings.Repeat("2", 30)} {
			holdNone(t, "\x1b["+n+last)
		}
	}
}

// A byte within a sequence that is neither from 32 to 63 nor a last one is skipped,
// with all ahead of it.
func TestBytesThatBreakSequences(t *testing.T) {
	for c := range 256 {
		if c >= 32 && c <= 126 {
			continue
		}
		for _, n := range []string{"", "0", "2", "7", ";", "2;", "2;2", "7;4", "?", "?25", " ", strings.Repeat("2", 29), strings.Repeat("0;", 15)} {
			holdNone(t, "\x1b["+n+string([]byte{byte(c)}))
		}
	}
	holdSamples(t, []sample{
		shows("a\x1b[\x1b[2Jb", "a[2Jb "),
		shows("a\x1b[2\x1b[2Jb", "a[2Jb "),
		shows("a\x1b[2\x1bJb", "aJb   "),
		shows("a\x1b[2\x1b\x1b[2Jb", " b    "),
		shows("a\x1b[1;\x1bHb", "aHb   "),
		shows("a\x1b[7\nmb", "amb   "),
		shows("a\x1b[7\x7fmb", "amb   "),
		shows("a\x1b[7\xffmb", "amb   "),
		shows("a\x1b[7\x80mb", "amb   "),
		shows("a\x1b[7\x9bmb", "amb   "),
		shows("a\x1b[7\u00E9b", "a\uFFFDb   "),
		shows("a\x1b[中b", "a\uFFFD\uFFFDb  "),
		shows("a\x1b[7;\U0001F600b", "a\uFFFD\uFFFD\uFFFDb "),
		shows("a\x1b[7\xe4\x1b[7mb", "ab    /010000"),
	})
}

// P23.2: long sequences

func TestLongSequences(t *testing.T) {
	l := strings.Repeat("7;", 20)
	holdSamples(t, []sample{
		shows("\x1b["+l[:28]+"7mx", "x   /1000"),
		shows("\x1b["+l[:28]+"07mx", "x   /1000"),
		shows("\x1b["+l[:28]+"007mx", "mx  "),
		shows("\x1b["+l[:30]+"7mx", "mx  "),
		shows("\x1b["+l[:30]+"07mx", "7mx "),
		shows("\x1b["+l[:30]+"\x1b[7mx", "[7mx"),
		shows("\x1b["+l[:31]+"\x1b[7mx", "x   /1000"),
		shows("\x1b["+l[:30]+"\rmx", "mx  "),
		shows("\x1b["+l[:31]+"\rmx", "mx  "),
		shows("\x1b[2;3;"+strings.Repeat("1;", 12)+"1Hx", "    ", "  x "),
		shows("\x1b[2;3;"+strings.Repeat("1;", 12)+"01Hx", "    ", "  x "),
		shows("\x1b[2;3;"+strings.Repeat("1;", 12)+"001Hx", "Hx  ", "    "),
		shows("\x1b[2;3;"+strings.Repeat("1;", 13)+"01Hx", "1Hx ", "    "),
		shows("\x1b["+strings.Repeat("0", 29)+"Hx", "    ", "x   "),
		shows("\x1b["+strings.Repeat("0", 30)+"Hx", "    ", "x   "),
		shows("\x1b["+strings.Repeat("0", 31)+"Hx", "Hx  ", "    "),
		shows("\x1b["+strings.Repeat("0", 32)+"Hx", "0Hx ", "    "),
		shows("\x1b["+strings.Repeat("2", 33)+"Jx", "22Jx", "    "),
		shows("\x1b["+strings.Repeat(" ", 29)+"mx", "x   "),
		shows("\x1b["+strings.Repeat(" ", 30)+"mx", "x   "),
		shows("\x1b["+strings.Repeat(" ", 31)+"mx", "mx  "),
		shows("\x1b["+strings.Repeat("?", 32)+"mx", "?mx "),
		shows("\x1b["+strings.Repeat(";", 62)+"m", ";;;;"),
	})
}

// Each byte behind 29, 30, 31 and 32 bytes from 32 to 63.
func TestEachByteBehindLongSequences(t *testing.T) {
	for _, ahead := range []string{strings.Repeat("2", 40), strings.Repeat("7;", 20), strings.Repeat(" !/:<=>?", 5)} {
		for c := range 256 {
			b := string([]byte{byte(c)})
			for n := 28; n <= 30; n++ {
				if c < 32 || c > 126 || c >= 64 && !strings.Contains("HmJ", b) || c < 64 && n == 30 {
					holdNone(t, "\x1b["+ahead[:n]+b)
				}
			}
			for n := 28; n <= 33; n++ {
				holdWrite(t, 2, 5, "\x1b["+ahead[:n]+b)
			}
		}
		holdNone(t, "\x1b["+ahead[:31])
	}
}

// P23.2: 27 and another byte, and bytes with no effect

func TestEscapeAndEachByte(t *testing.T) {
	for c := range 256 {
		if c != '[' {
			holdNone(t, "\x1b"+string([]byte{byte(c)}))
			holdNone(t, "\x1b"+string([]byte{byte(c)})+"\x1b"+string([]byte{byte(c)}))
		}
	}
	holdSamples(t, []sample{
		shows("\x1b\x1b[2Jx", "[2Jx "),
		shows("\x1b\x1b\x1b[7mx", "x    /10000"),
		shows("\x1b\x1b\x1b\x1b[7mx", "[7mx "),
		shows("a\x1bOHb", "aHb  "),
		shows("a\x1b(Bb", "aBb  "),
		shows("a\x1bcb", "ab   "),
		shows("a\x1b]b", "ab   "),
		shows("a\x1b 2b", "a2b  "),
		shows("\x1b中x", "\uFFFD\uFFFDx  "),
		shows("\x1b\u00E9x", "\uFFFDx   "),
		shows("\x1b\xe4中x", "中_x  "),
		shows("\x1b\x00\x1b\x7fx", "x    "),
		shows("\x1b7\x1b[7mx\x1b8y", "xy   /11000"),
	})
}

func TestBytesWithNoEffect(t *testing.T) {
	for c := range 128 {
		if c < 27 || c > 27 && c < 32 || c == 127 {
			holdNone(t, string(rune(c)))
			holdNone(t, strings.Repeat(string(rune(c)), 5))
		}
	}
	holdNone(t, "")
	holdSamples(t, []sample{
		shows("a\rb\nc\td\x08e\x7ff", "abcdef "),
		shows("\x00a\x01\x02\x1a\x1c\x1f中", "a中_    "),
		shows("中\r\n\x1b[1;2H\x08x", " x     "),
	})
}

// P23.2: what is incomplete waits

func TestIncompleteSequencesWait(t *testing.T) {
	for _, c := range []struct{ waits, rest, want string }{
		{"\x1b", "[7mx", "abx   /001000"},
		{"\x1b[", "7mx", "abx   /001000"},
		{"\x1b[7", "mx", "abx   /001000"},
		{"\x1b[7;", "1mx", "abx   /005000"},
		{"\x1b[7;1", "mx", "abx   /005000"},
		{"\x1b[1", ";4Hx", "ab x  "},
		{"\x1b[1;", "4Hx", "ab x  "},
		{"\x1b[1;4", "Hx", "ab x  "},
		{"\x1b[2", "Jx", "  x   "},
		{"\x1b[?", "25hx", "abx   "},
		{"\x1b[?25", "hx", "abx   "},
		{"\x1b[;;", "mx", "abx   "},
		{"\x1b[" + strings.Repeat("0", 29), "mx", "abx   "},
		{"\x1b[" + strings.Repeat("0", 30), "mx", "abx   "},
		{"\x1b[" + strings.Repeat("0", 30), "0mx", "abmx  "},
		{"\x1b[" + strings.Repeat("0", 30), "\x1bmx", "abmx  "},
		{"\xc3", "\xa9x", "ab\u00E9x  "},
		{"\xe4", "\xb8\xadx", "ab中_x "},
		{"\xe4\xb8", "\xadx", "ab中_x "},
		{"\xf0", "\x9f\x98\x80x", "ab\U0001F600_x "},
		{"\xf0\x9f", "\x98\x80x", "ab\U0001F600_x "},
		{"\xf0\x9f\x98", "\x80x", "ab\U0001F600_x "},
	} {
		x := started(t, 1, 6)
		x.Write([]byte("ab" + c.waits))
		for _, none := range [][]byte{nil, {}, []byte("mH")[:0]} {
			holdRows(t, c.waits, x, "ab    ")
			x.Write(none)
		}
		holdRows(t, c.waits, x, "ab    ")
		x.Write([]byte(c.rest))
		holdRows(t, c.waits+c.rest, x, c.want)
	}
}
