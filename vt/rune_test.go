package vt

import (
	"strings"
	"testing"
	"unicode/utf8"

	"stylus/render"
	"stylus/width"
)

// P23.2: runes

// Each rune that there is, where three columns, two, one and none are left.
func TestEachRune(t *testing.T) {
	x := started(t, 1, 5)
	for r := rune(32); r <= 0x10FFFF; r++ {
		if r == 127 || !utf8.ValidRune(r) {
			continue
		}
		for left := range 4 {
			b := "\x1b[2J\x1b[4m\x1b[H" + "abcde"[:5-left] + string(r) + "z"
			want := grid("     ")
			for i := range 5 - left {
				want.Cells[i] = render.Cell{Rune: rune("abcde"[i]), Style: 2}
			}
			at := 5 - left
			if n := width.Of(r); n > 0 && n <= left && (r < 128 || r >= 160) {
				want.Cells[at] = render.Cell{Rune: r, Style: 2}
				if n == 2 {
					want.Cells[at+1] = render.Cell{Style: 2}
				}
				at += n
			}
			if at < 5 {
				want.Cells[at] = render.Cell{Rune: 'z', Style: 2}
			}
			x.Write([]byte(b))
			if g := x.Grid(); !same(g, want) {
				t.Fatalf("%U, with %d columns left: %q, want %q", r, left, drawn(g), drawn(want))
			}
		}
	}
}

func TestRuneSamples(t *testing.T) {
	holdSamples(t, []sample{
		shows("a", "a  "),
		shows("abc", "abc"),
		shows("abcd", "abc"),
		shows("ab", "a", " "),
		shows("中", " "),
		shows("中a", "a"),
		shows("中", "中_"),
		shows("中a", "中_"),
		shows("a中", "a "),
		shows("a中b", "ab"),
		shows("中文", "中_ "),
		shows("中文a", "中_a"),
		shows("ab中c中d", "abc"),
		shows(" a ", " a  "),
		shows("~ \u00A0x", "~ \u00A0x "),
		shows("\u00E9\u20AC\u4E2D\U0001F600\U00010400", "\u00E9\u20AC中_\U0001F600_\U00010400"),
		shows("e\u0301f", "ef "),
		shows("\u0301", "  "),
		shows("中\u0301a\u200B\u200F\uFE00\uFE0Fb", "中_ab "),
		shows("a\u0080\u0085\u009Bb", "ab "),
		shows("a\u009F\u00A0", "a\u00A0 "),
		shows("\u009B7mx", "7mx"),
		shows("abc\u0301d", "abc"),
		shows("\u1100\u115F\u1160", "\u1100_\u115F_\u1160"),
		shows("\U0003FFFD\U0003FFFE\U0010FFFF", "\U0003FFFD_\U0003FFFE\U0010FFFF "),
		shows("\uFFFD\uFFFF\uFEFF", "\uFFFD\uFFFF\uFEFF "),
		shows("\x1b[7m中\x1b[1ma", "中_a /1150"),
		shows("\x1b[7m中\x1b[0;4m文", "中_文_/1122"),
	})
}

// Bytes that no rune has, or that are cut off, are U+FFFD, one for each byte.
func TestBytesThatAreNoRunes(t *testing.T) {
	odd := func(n int) string { return strings.Repeat("\uFFFD", n) }
	for _, c := range []struct {
		bytes, want string
	}{
		{"\x80", odd(1)},
		{"\xbf", odd(1)},
		{"\x80\x80", odd(2)},
		{"\xc0\x80", odd(2)},
		{"\xc1\xbf", odd(2)},
		{"\xc2a", odd(1) + "a"},
		{"\xc2\xc2\xa9", odd(1) + "\u00A9"},
		{"\xe0\x80\x80", odd(3)},
		{"\xe0\x9f\xbf", odd(3)},
		{"\xe0\xa0\x80", "\u0800"},
		{"\xe4a", odd(1) + "a"},
		{"\xe4\xb8a", odd(2) + "a"},
		{"\xe4\xb8\xe4\xb8\xad", odd(2) + "中_"},
		{"\xe4\xb8\xad\xad", "中_" + odd(1)},
		{"\xed\x9f\xbf", "\uD7FF"},
		{"\xed\xa0\x80", odd(3)},
		{"\xed\xbf\xbf", odd(3)},
		{"\xee\x80\x80", "\uE000"},
		{"\xf0\x80\x80\x80", odd(4)},
		{"\xf0\x8f\xbf\xbf", odd(4)},
		{"\xf0\x90\x80\x80", "\U00010000"},
		{"\xf0\x9fa", odd(2) + "a"},
		{"\xf0\x9f\x98a", odd(3) + "a"},
		{"\xf0\x9f\x98\xf0\x9f\x98\x80", odd(3) + "\U0001F600_"},
		{"\xf4\x8f\xbf\xbf", "\U0010FFFF"},
		{"\xf4\x90\x80\x80", odd(4)},
		{"\xf5\x80", odd(2)},
		{"\xff\xfe", odd(2)},
		{"\xe4\r", odd(1)},
		{"\xe4\xb8\x00", odd(2)},
		{"\xe4\xb8\x7f", odd(2)},
		{"\xe4\xb8\u0301", odd(2)},
	} {
		want := c.want + strings.Repeat(" ", 8)
		want = string([]rune(want)[:8])
		holdSamples(t, []sample{shows(c.bytes, want)})
		holdSamples(t, []sample{shows(c.bytes+"\x1b[1;8Hz", want[:len(want)-1]+"z")})
	}
	holdSamples(t, []sample{
		shows("\xe4\x1b[7mx", "\uFFFDx  /0100"),
		shows("\xe4\xb8\x1b[7mx", "\uFFFD\uFFFDx /0010"),
		shows("\xf0\x9f\x98\x1b[2Jx", "   x"),
		shows("ab\xff\xff\xff", "ab\uFFFD\uFFFD"),
	})
}

// A terminal shows the narrow runes that are at all shown one behind the other.
func TestWholeRows(t *testing.T) {
	for _, side := range [][2]int{{1, 1}, {1, 60}, {60, 1}, {60, 60}, {3, 7}} {
		x := started(t, side[0], side[1])
		want := spaces(side[0], side[1])
		for row := range side[0] {
			x.Write([]byte("\x1b[" + string(rune('0'+(row+1)/10)) + string(rune('0'+(row+1)%10)) + "H"))
			for column := range 70 {
				r := rune('a' + (row+column)%26)
				x.Write([]byte(string(r)))
				if column < side[1] {
					want.Cells[row*side[1]+column].Rune = r
				}
			}
		}
		if g := x.Grid(); !same(g, want) {
			t.Errorf("%v: %q, want %q", side, drawn(g), drawn(want))
		}
	}
}

// P23.2: halves of wide runes

func TestHalvesSamples(t *testing.T) {
	holdSamples(t, []sample{
		shows("中\x1b[Hx", "x   "),
		shows("中\x1b[1;2Hx", " x  "),
		shows("a中b\x1b[1;2Hx", "ax b"),
		shows("a中b\x1b[1;3Hx", "a xb"),
		shows("ab中\x1b[1;3Hx", "abx "),
		shows("ab中\x1b[1;4Hx", "ab x"),
		shows("中文\x1b[1;2H国", " 国_ "),
		shows("中文\x1b[1;2Hx", " x文_"),
		shows("中文\x1b[1;3Hx", "中_x "),
		shows("中文\x1b[1;2Hxy", " xy "),
		shows("中文a\x1b[1;2H国", " 国_ a"),
		shows("a中文\x1b[1;3H国b", "a 国_b"),
		shows("中文\x1b[H国", "国_文_"),
		shows("中文\x1b[1;3H国", "中_国_"),
		shows("中\x1b[H中", "中_  "),
		shows("a中b\x1b[1;2H文", "a文_b"),
		shows("中ab\x1b[1;2H文", " 文_b"),
		shows("ab中\x1b[1;2H文", "a文_ "),
		shows("abcd\x1b[H中", "中_cd"),
		shows("abcd\x1b[1;2H中", "a中_d"),
		shows("abcd\x1b[1;3H中", "ab中_"),
		shows("abcd\x1b[1;4H中", "abcd"),
		shows("abcd\x1b[1;4H中x", "abcx"),
		shows("ab中\x1b[1;4H文", "ab中_"),
		shows("ab中\x1b[1;4H文x", "ab x"),
		shows("中\x1b[1;2H\u0301\u0085", "中_  "),
		shows("中\x1b[1;2H\r\x1b[7m", "中_  "),
		shows("中\x1b[H中\x1b[1;2H中\x1b[1;3H中", "  中_"),
		shows("中\x1b[1;2H ", "    "),
		shows("中\x1b[H ", "    "),
		shows("中文国\x1b[1;2Hxyzw", " xyzw "),
		shows("中文国\x1b[1;2H中文", " 中_文_ "),
		shows("中中\x1b[1;2H中\x1b[1;1Hxx", "xx  "),
	})
}

// The other half becomes a space of style 0, whatever the styles are.
func TestStylesOfHalves(t *testing.T) {
	holdSamples(t, []sample{
		shows("\x1b[7m中\x1b[Hx", "x /10"),
		shows("\x1b[7m中\x1b[1;2Hx", " x/01"),
		shows("\x1b[7m中\x1b[0;4m\x1b[Hx", "x /20"),
		shows("\x1b[7m中\x1b[m\x1b[1;2Hx", " x"),
		shows("\x1b[7m中\x1b[4m文\x1b[1m\x1b[1;2H国", " 国_ /0770"),
		shows("\x1b[7m中\x1b[4m文\x1b[m\x1b[1;2H国", " 国_ "),
		shows("\x1b[7m中文\x1b[0;4m\x1b[1;3H国", "中_国_/1122"),
		shows("\x1b[7ma中b\x1b[4m\x1b[1;3Hx", "a xb/1031"),
		shows("\x1b[7m中\x1b[m\x1b[H中", "中_"),
		shows("\x1b[7m中\x1b[1m\x1b[H中", "中_/55"),
	})
}

// The halves of other rows stay.
func TestHalvesOfOtherRows(t *testing.T) {
	holdSamples(t, []sample{
		shows("中文\x1b[2H中文\x1b[3H中文\x1b[2;2Hx", "中_文_", " x文_", "中_文_"),
		shows("中文\x1b[2H中文\x1b[3H中文\x1b[2;4Hx", "中_文_", "中_ x", "中_文_"),
		shows("中文\x1b[2H中文\x1b[3H中文\x1b[2;1Hx", "中_文_", "x 文_", "中_文_"),
		shows("中文\x1b[2H中文\x1b[3H中文\x1b[2;2H国", "中_文_", " 国_ ", "中_文_"),
		shows("ab中\x1b[2Habcd\x1b[2;1Hx", "ab中_", "xbcd"),
		shows("ab中\x1b[2H中cd\x1b[1;4Hx", "ab x", "中_cd"),
		shows("ab中\x1b[2H中cd\x1b[2;1H文", "ab中_", "文_cd"),
		shows("abc\x1b[2H中c\x1b[1;3Hx", "abx", "中_c"),
		shows("a中\x1b[2Hxyz\x1b[1;2H文\x1b[2;1Hw", "a文_", "wyz"),
	})
}

// P23.2: the position behind the last column

func TestBehindTheLastColumn(t *testing.T) {
	holdSamples(t, []sample{
		shows("abcd", "abc", "   "),
		shows("abc\r\nd", "abc", "   "),
		shows("a中b", "a中_", "   "),
		shows("abc中", "abc", "   "),
		shows("abcd\x1b[2Hx", "abc", "x  "),
		shows("abcd\x1b[1;3Hx", "abx", "   "),
		shows("abc\x1b[7m\x1b[1;3Hx", "abx/001", "   "),
		shows("abc\x1b[2Jd", "   ", "   "),
		shows("abc\x1b[2Jd\x1b[1;3He", "  e", "   "),
		shows("\x1b[2;3Hxy", "   ", "  x"),
		shows("\x1b[9;9Hxy", "   ", "  x"),
		shows("a中\x1b[1;3H中x", "a x", "   "),
	})
}
