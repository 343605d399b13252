package keys

import (
	"fmt"
	"slices"
	"strings"
	"testing"
)

// char is a Char.
func char(r rune, mods int) Key {
	return Key{Kind: Char, Rune: r, Mods: mods}
}

// some is a key that is no Char.
func some(kind, mods int) Key {
	return Key{Kind: kind, Mods: mods}
}

// typed returns the keys of runes as they are.
func typed(s string) []Key {
	var l []Key
	for _, r := range s {
		l = append(l, char(r, 0))
	}
	return l
}

// holdWaits holds that bytes give these keys, and that so many of them wait then,
// also if they come one by one.
func holdWaits(t *testing.T, b string, waiting int, want ...Key) {
	t.Helper()
	d := New()
	if l := d.Feed([]byte(b)); !slices.Equal(l, want) || d.Waiting() != waiting {
		t.Errorf("Feed(%q): %v, %d wait, want %v, %d", b, l, d.Waiting(), want, waiting)
	}
	d = New()
	var l []Key
	for i := range len(b) {
		l = append(l, d.Feed([]byte{b[i]})...)
	}
	if !slices.Equal(l, want) || d.Waiting() != waiting {
		t.Errorf("Feed(%q), byte by byte: %v, %d wait, want %v, %d", b, l, d.Waiting(), want, waiting)
	}
}

// holdKeys holds that bytes give these keys, and that nothing waits then: neither
// at once, nor where others follow that begin anew.
func holdKeys(t *testing.T, b string, want ...Key) {
	t.Helper()
	holdWaits(t, b, 0, want...)
	holdWaits(t, b+"\x1b", 1, want...)
	holdWaits(t, b+b, 0, append(slices.Clone(want), want...)...)
}

// P20.1: New

func TestNewHasNothingWaiting(t *testing.T) {
	d := New()
	if d == nil {
		t.Fatal("New: nil")
	}
	if n := d.Waiting(); n != 0 {
		t.Errorf("Waiting: %d", n)
	}
	if l := d.Feed(nil); len(l) != 0 {
		t.Errorf("Feed: %v", l)
	}
	if l := New().Flush(); len(l) != 0 {
		t.Errorf("Flush: %v", l)
	}
}

func TestNumbersOfKinds(t *testing.T) {
	for i, kind := range []int{Char, Enter, Tab, Back, Delete, Up, Down, Left, Right, Home, End, Escape} {
		if kind != i+1 {
			t.Errorf("the kind at %d is %d", i, kind)
		}
	}
}

// P20.1: single bytes

// wantLow are the keys of the bytes from 0 to 31; that of 27 is not looked at.
var wantLow = [32]Key{
	{1, '`', 4}, {1, 'a', 4}, {1, 'b', 4}, {1, 'c', 4}, {1, 'd', 4}, {1, 'e', 4}, {1, 'f', 4}, {1, 'g', 4},
	{4, 0, 0}, {3, 0, 0}, {2, 0, 4}, {1, 'k', 4}, {1, 'l', 4}, {2, 0, 0}, {1, 'n', 4}, {1, 'o', 4},
	{1, 'p', 4}, {1, 'q', 4}, {1, 'r', 4}, {1, 's', 4}, {1, 't', 4}, {1, 'u', 4}, {1, 'v', 4}, {1, 'w', 4},
	{1, 'x', 4}, {1, 'y', 4}, {1, 'z', 4}, {}, {1, '|', 4}, {1, '}', 4}, {1, '~', 4}, {1, 127, 4},
}

// keyOfByte returns the key of a byte that is no beginning of a longer sequence.
func keyOfByte(c byte) Key {
	switch {
	case c < 32:
		return wantLow[c]
	case c == 127:
		return some(Back, 0)
	case c < 127:
		return char(rune(c), 0)
	}
	return char(0xFFFD, 0)
}

// beginsRune reports whether longer complete sequences of UTF-8 begin with c.
func beginsRune(c byte) bool {
	return c >= 194 && c <= 244
}

func TestEachByteAlone(t *testing.T) {
	for i := range 256 {
		c := byte(i)
		if c == 27 || beginsRune(c) {
			holdWaits(t, string([]byte{c}), 1)
		} else {
			holdKeys(t, string([]byte{c}), keyOfByte(c))
		}
	}
}

func TestEachByteBehindEscape(t *testing.T) {
	for i := range 256 {
		c := byte(i)
		b := string([]byte{27, c})
		switch {
		case c == 27:
			holdWaits(t, b, 1)
		case c == '[' || c == 'O' || beginsRune(c):
			holdWaits(t, b, 2)
		default:
			k := keyOfByte(c)
			k.Mods += 2
			holdKeys(t, b, k)
		}
	}
}

func TestAltWithOthers(t *testing.T) {
	holdKeys(t, "\x1b\n", some(Enter, 6))
	holdKeys(t, "\x1b\r", some(Enter, 2))
	holdKeys(t, "\x1b\t", some(Tab, 2))
	holdKeys(t, "\x1b\x08", some(Back, 2))
	holdKeys(t, "\x1b\x7f", some(Back, 2))
	holdKeys(t, "\x1b\x00", char(96, 6))
	holdKeys(t, "\x1b\x01", char('a', 6))
	holdKeys(t, "\x1b\x1a", char('z', 6))
	holdKeys(t, "\x1b\x1c", char(124, 6))
	holdKeys(t, "\x1b\x1f", char(127, 6))
	holdKeys(t, "\x1b ", char(' ', 2))
	holdKeys(t, "\x1bx", char('x', 2))
	holdKeys(t, "\x1b~", char('~', 2))
	holdKeys(t, "\x1b\x80", char(0xFFFD, 2))
	holdKeys(t, "\x1bxx\x1bx", char('x', 2), char('x', 0), char('x', 2))
}

func TestEscapes(t *testing.T) {
	holdWaits(t, "\x1b", 1)
	holdWaits(t, "\x1b\x1b", 1)
	holdWaits(t, "\x1b\x1b\x1b", 1)
	holdWaits(t, "\x1b\x1b[", 2)
	holdWaits(t, "\x1b\x1bO", 2)
	holdKeys(t, "\x1b\x1b[A", some(Up, 0))
	holdKeys(t, "\x1b\x1b\x1b[A", some(Up, 0))
	holdKeys(t, "\x1b\x1bOA", some(Up, 0))
	holdKeys(t, "\x1b\x1bx", char('x', 2))
	holdKeys(t, "\x1b\x1b\x1bx", char('x', 2))
	holdKeys(t, "a\x1b\x1b\x1b\x01b", char('a', 0), char('a', 6), char('b', 0))
	holdKeys(t, "\x1b\x1b[1;5C\x1b\x1b\r", some(Right, 4), some(Enter, 2))
}

// P20.1: runes

// longRunes have two, three and four bytes, at both borders.
var longRunes = []rune{0x80, 0x9F, 0xE9, 0x7FF, 0x800, 0x20AC, 0xD7FF, 0xE000, 0xFFFD, 0xFFFF, 0x10000, 0x1F600, 0x10FFFF}

func TestLongRunes(t *testing.T) {
	for _, r := range longRunes {
		s := string(r)
		holdKeys(t, s, char(r, 0))
		holdKeys(t, "\x1b"+s, char(r, 2))
		holdKeys(t, "a"+s+"\x1b"+s+s, char('a', 0), char(r, 0), char(r, 2), char(r, 0))
		for n := 1; n < len(s); n++ {
			holdWaits(t, s[:n], n)
			holdWaits(t, "\x1b"+s[:n], n+1)
			holdWaits(t, "\x1b\x1b"+s[:n], n+1)
			holdWaits(t, s+s[:n], n, char(r, 0))
		}
	}
}

// oddKeys returns the keys of n bytes that are no runes.
func oddKeys(n, mods int) []Key {
	l := slices.Repeat([]Key{char(0xFFFD, 0)}, n)
	l[0].Mods = mods
	return l
}

// A rune that is not continued as it should be.
func TestBrokenRunes(t *testing.T) {
	for _, c := range []struct {
		next string
		keys []Key
	}{
		{"a", typed("a")},
		{"\x00", []Key{char('`', 4)}},
		{"\r", []Key{some(Enter, 0)}},
		{"\x7f", []Key{some(Back, 0)}},
		{"[", typed("[")},
		{"O", typed("O")},
		{"\u20AC", typed("\u20AC")},
		{"\xff", oddKeys(1, 0)},
		{"\xc0", oddKeys(1, 0)},
		{"\x1b[A", []Key{some(Up, 0)}},
		{"\x1bx", []Key{char('x', 2)}},
	} {
		for _, r := range longRunes {
			s := string(r)
			for n := 1; n < len(s); n++ {
				holdKeys(t, s[:n]+c.next, append(oddKeys(n, 0), c.keys...)...)
				holdKeys(t, "\x1b"+s[:n]+c.next, append(oddKeys(n, 2), c.keys...)...)
				holdWaits(t, s[:n]+"\x1b", 1, oddKeys(n, 0)...)
				holdWaits(t, "\x1b"+s[:n]+"\x1b", 1, oddKeys(n, 2)...)
				holdWaits(t, s[:n]+"\xf0", 1, oddKeys(n, 0)...)
				holdWaits(t, "\x1b"+s[:n]+"\xe2\x82", 2, oddKeys(n, 2)...)
			}
		}
	}
}

// Bytes none of which is part of a complete sequence, or the first of one.
func TestOddBytes(t *testing.T) {
	for _, b := range []string{
		"\x80", "\xbf", "\xc0", "\xc1", "\xf5", "\xf8", "\xfe", "\xff", "\x80\x80", "\xff\xff\xff",
		// too long for their runes
		"\xc0\x80", "\xc1\xbf", "\xe0\x80", "\xe0\x80\x80", "\xe0\x9f\xbf", "\xf0\x80", "\xf0\x8f\xbf\xbf",
		// surrogates
		"\xed\xa0", "\xed\xa0\x80", "\xed\xbf\xbf", "\xed\xa0\x80\xed\xb0\x80",
		// beyond the last rune
		"\xf4\x90", "\xf4\x90\x80\x80", "\xf4\xbf\xbf\xbf", "\xf5\x80\x80\x80", "\xf8\x88\x80\x80\x80",
	} {
		holdKeys(t, b, oddKeys(len(b), 0)...)
		holdKeys(t, "\x1b"+b, oddKeys(len(b), 2)...)
		holdKeys(t, b+"a", append(oddKeys(len(b), 0), char('a', 0))...)
		holdKeys(t, "a\x1b"+b+"a\x1b[B", slices.Concat(typed("a"), oddKeys(len(b), 2), typed("a"), []Key{some(Down, 0)})...)
	}
	holdKeys(t, "\x1b\xe2\u20AC", append(oddKeys(1, 2), char(0x20AC, 0))...)
	holdKeys(t, "\xe4a\xff", char(0xFFFD, 0), char('a', 0), char(0xFFFD, 0))
}

// P20.1: what follows 27 [ and 27 O

func TestEachByteBehindBracket(t *testing.T) {
	for _, head := range []string{"\x1b[", "\x1b[1", "\x1b[1;5", "\x1b[?", "\x1b[;", "\x1b[<=>:", "\x1b[12345678901", "\x1b[000000000000"} {
		for i := range 256 {
			c := byte(i)
			b := head + string([]byte{c})
			switch {
			case c >= 48 && c <= 63 && len(head) < 14:
				holdWaits(t, b, len(b))
			case c >= 64 && c <= 126:
				holdKeys(t, b+"x", append(keyOfSequence(head[2:], c), char('x', 0))...)
			case c == 27 || beginsRune(c):
				holdWaits(t, b, 1)
				holdWaits(t, b[:len(head)]+"q"+b, 1)
			default:
				holdKeys(t, b, keyOfByte(c))
			}
		}
	}
}

func TestEachByteBehindO(t *testing.T) {
	for i := range 256 {
		c := byte(i)
		b := "\x1bO" + string([]byte{c})
		switch {
		case c >= 64 && c <= 126:
			holdKeys(t, b, keyOfSequence("", c)...)
		case c == 27 || beginsRune(c):
			holdWaits(t, b, 1)
		default:
			holdKeys(t, b, keyOfByte(c))
			holdKeys(t, b+"A", keyOfByte(c), char('A', 0))
		}
	}
}

// keyOfSequence returns the key of a sequence with one of a few texts ahead of
// its last byte.
func keyOfSequence(ahead string, last byte) []Key {
	kinds := map[byte]int{'A': Up, 'B': Down, 'C': Right, 'D': Left, 'H': Home, 'F': End, 'Z': Tab}
	switch ahead {
	case "1", "7", "1;1", "1;5", "1;5;9":
		kinds['~'] = Home
	case "3", "3;2":
		kinds['~'] = Delete
	case "4", "4;3", "8;8":
		kinds['~'] = End
	case "", "2", "2;2", "5;6;7":
	default:
		return nil
	}
	mods := map[string]int{"1;5": 4, "1;5;9": 4, "3;2": 1, "4;3": 2, "8;8": 7, "2;2": 1, "5;6;7": 5}[ahead]
	kind, is := kinds[last]
	if !is {
		return nil
	}
	if last == 'Z' && mods%2 == 0 {
		mods++
	}
	return []Key{some(kind, mods)}
}

func TestEachLastByte(t *testing.T) {
	for _, ahead := range []string{"", "1", "2", "3", "4", "7", "1;1", "1;5", "3;2", "4;3", "8;8", "2;2", "1;5;9", "5;6;7"} {
		for last := byte(64); last <= 126; last++ {
			holdKeys(t, "\x1b["+ahead+string(rune(last)), keyOfSequence(ahead, last)...)
		}
		holdKeys(t, "\x1b["+ahead+"\x7f", some(Back, 0))
		holdWaits(t, "\x1b["+ahead+"?", 3+len(ahead))
	}
}

func TestKeysOfSequences(t *testing.T) {
	for last, k := range map[string]Key{"A": some(Up, 0), "B": some(Down, 0), "C": some(Right, 0), "D": some(Left, 0), "H": some(Home, 0), "F": some(End, 0), "Z": some(Tab, 1)} {
		holdKeys(t, "\x1b["+last, k)
		holdKeys(t, "\x1bO"+last, k)
		holdKeys(t, "\x1b[1"+last, k)
		holdKeys(t, "\x1b[999"+last, k)
		holdKeys(t, "\x1b[0;0"+last, k)
		holdKeys(t, "\x1b[A\x1bO"+last+"q", some(Up, 0), k, char('q', 0))
		k.Mods |= 4
		holdKeys(t, "\x1b[1;5"+last, k)
		k.Mods |= 3
		holdKeys(t, "\x1b[9;8"+last, k)
	}
	for _, last := range "EGIJKLMNOPQRSTUVWXYabcdfhz@[]^_`{|}" {
		holdKeys(t, "\x1b["+string(last))
		holdKeys(t, "\x1bO"+string(last)+"q", char('q', 0))
		holdKeys(t, "\x1b[1;5"+string(last)+"q", char('q', 0))
	}
	holdKeys(t, "\x1bO~")
	holdKeys(t, "\x1b[[A", char('A', 0))
	holdKeys(t, "\x1bOOA", char('A', 0))
	holdKeys(t, "\x1bO[A", char('A', 0))
	holdKeys(t, "\x1b[OA", char('A', 0))
}

// P20.1: the numbers of a sequence

// spelled returns a number with one, two and three digits, as far as it has them.
func spelled(n int) []string {
	var l []string
	for digits := 1; digits <= 3; digits++ {
		if s := fmt.Sprintf("%0*d", digits, n); len(s) == digits {
			l = append(l, s)
		}
	}
	return l
}

func TestEachFirstNumber(t *testing.T) {
	kinds := map[int]int{1: Home, 7: Home, 3: Delete, 4: End, 8: End}
	for n := range 1000 {
		for _, s := range spelled(n) {
			for ahead, mods := range map[string]int{s: 0, s + ";1": 0, s + ";2": 1, s + ";7;3": 6, s + ";008;4;1": 7} {
				if kind, is := kinds[n]; is {
					holdKeys(t, "\x1b["+ahead+"~", some(kind, mods))
				} else {
					holdKeys(t, "\x1b["+ahead+"~")
				}
				holdKeys(t, "\x1b["+ahead+"D", some(Left, mods))
			}
		}
	}
	holdKeys(t, "\x1b[~")
	holdKeys(t, "\x1b[~1~", typed("1~")...)
}

func TestEachSecondNumber(t *testing.T) {
	for n := range 1000 {
		mods := 0
		if n >= 2 && n <= 8 {
			mods = n - 1
		}
		for _, s := range spelled(n) {
			holdKeys(t, "\x1b[1;"+s+"A", some(Up, mods))
			holdKeys(t, "\x1b[3;"+s+"~", some(Delete, mods))
			holdKeys(t, "\x1b[0;"+s+";"+s+"H", some(Home, mods))
			holdKeys(t, "\x1b["+s+"F", some(End, 0))
			holdKeys(t, "\x1b[1;1;"+s+"F", some(End, 0))
			holdKeys(t, "\x1b[2;"+s+"~")
			holdKeys(t, "\x1b[1;"+s+"Q")
		}
	}
}

func TestTabWithEachSecondNumber(t *testing.T) {
	for n, mods := range []int{1, 1, 1, 3, 3, 5, 5, 7, 7, 1, 1, 1, 1, 1, 1, 1, 1, 1} {
		for _, s := range spelled(n) {
			holdKeys(t, "\x1b[1;"+s+"Z", some(Tab, mods))
		}
	}
	holdKeys(t, "\x1b[1;999Z", some(Tab, 1))
	holdKeys(t, "\x1b[5Z", some(Tab, 1))
	holdKeys(t, "\x1b[1;1;5Z", some(Tab, 1))
}

// Each with each last byte that a key has.
func TestRightNumbers(t *testing.T) {
	for ahead, mods := range map[string]int{
		"1": 0, "01": 0, "001": 0, "1;2": 1, "1;02": 1, "001;002": 1, "1;5;9": 4, "1;5;999": 4, "1;3;0;0": 2, "1;1;5": 0,
		"1;4;1;1;1": 3, "1;1;1;1;1;5": 0, "1;2;3;4;5;6": 1, "001;008;009": 7, "1;9;5": 0, "1;0;2": 0, "1;100": 0, "1;10;5": 0,
	} {
		for last, kind := range map[string]int{"A": Up, "B": Down, "C": Right, "D": Left, "H": Home, "F": End, "~": Home} {
			holdKeys(t, "\x1b["+ahead+last, some(kind, mods))
		}
	}
}

func TestWrongNumbers(t *testing.T) {
	for _, ahead := range []string{
		"0001", "0000", "0003", "1000", "1234", "12345", "000000000001", "1;0005", "1;1000", "0001;5", "1;5;0000", "1;5;1000", "1;5;9;1234", "1000;5;1",
		";", ";;", ";;;", ";1", ";5", ";1;5", "1;", "1;5;", "1;5;9;", "1;;", "1;;5", "1;;5;", "1;5;;9", "1;5;;", ";;5", ";1;", "1;5;9;;",
		":", "?", "<", "=", ">", "?1", "1?", "1;?", "1;5?", "?1;5", "1;?5", "1:5", "1;5:1", "1;5;:", ">1;5", "<0;1;1", "=", "1;5;9?", "1;5;9;>", "3:", ":3",
	} {
		for _, last := range "ABCDHFZ~Qx" {
			holdKeys(t, "\x1b["+ahead+string(last))
			holdKeys(t, "a\x1b["+ahead+string(last)+"b\x1b[1;5"+string(last), slices.Concat(typed("ab"), keyOfSequence("1;5", byte(last)))...)
		}
	}
}

// Bytes that are neither digits nor ; at each place, in addition and instead.
func TestOtherBytesInNumbers(t *testing.T) {
	for _, ahead := range []string{"1", "3;5", "001;008", "1;5;9", "1;2;3;4"} {
		for at := range len(ahead) + 1 {
			for _, other := range ":<=>?" {
				for _, last := range "AZ~" {
					holdKeys(t, "\x1b["+ahead[:at]+string(other)+ahead[at:]+string(last))
					if at < len(ahead) {
						holdKeys(t, "\x1b["+ahead[:at]+string(other)+ahead[at+1:]+string(last))
					}
				}
			}
		}
	}
}

// P20.1: long sequences, and broken ones

func TestLengthsOfSequences(t *testing.T) {
	holdKeys(t, "\x1b[001;005;123A", some(Up, 4))
	holdKeys(t, "\x1b[001;005;12;A")
	holdKeys(t, "\x1b[001;005;12;3A", some(Up, 4))
	holdKeys(t, "\x1b[1;5;1;1;1;12A", some(Up, 4))
	holdKeys(t, "\x1b[001;005;12;34A", typed("4A")...)
	holdKeys(t, "\x1b[1;5;1;1;1;1;1A", typed("1A")...)
	for c := byte(48); c <= 63; c++ {
		s := string(rune(c))
		for n := range 13 {
			holdWaits(t, "\x1b["+strings.Repeat(s, n), 2+n)
		}
		eleven, twelve := "\x1b["+strings.Repeat(s, 11), "\x1b["+strings.Repeat(s, 12)
		for _, last := range []string{"A", "~", "Z", "@", "Q"} {
			holdKeys(t, eleven+last)
			holdKeys(t, twelve+last)
			holdKeys(t, twelve+s+last, typed(s+last)...)
			holdKeys(t, twelve+s+s+last, typed(s+s+last)...)
		}
		for x := byte(48); x <= 63; x++ {
			holdKeys(t, twelve+string(rune(x)), char(rune(x), 0))
			holdKeys(t, twelve+string(rune(x))+"\x1b[B", char(rune(x), 0), some(Down, 0))
		}
	}
	holdKeys(t, "\x1b["+strings.Repeat("1", 100), typed(strings.Repeat("1", 88))...)
}

func TestBrokenSequences(t *testing.T) {
	for _, head := range []string{"\x1b[", "\x1b[1", "\x1b[1;5", "\x1b[?;<", "\x1b[00000000000", "\x1b[000000000000", "\x1bO", "\x1b"} {
		holdWaits(t, head+"\x1b", 1)
		holdWaits(t, head+"\x1b[", 2)
		holdWaits(t, head+"\x1b[1;", 4)
		holdWaits(t, head+"\x1bO", 2)
		holdWaits(t, head+"\x1b\xe2\x82", 3)
		holdKeys(t, head+"\x1b[A", some(Up, 0))
		holdKeys(t, head+"\x1bOB", some(Down, 0))
		holdKeys(t, head+"\x1b\x01", char('a', 6))
		holdKeys(t, head+"\x1b\u20AC", char(0x20AC, 2))
		if head == "\x1b" {
			continue
		}
		holdKeys(t, head+"\x00A", char('`', 4), char('A', 0))
		holdKeys(t, head+"\nA", some(Enter, 4), char('A', 0))
		holdKeys(t, head+"\rA", some(Enter, 0), char('A', 0))
		holdKeys(t, head+"\tA", some(Tab, 0), char('A', 0))
		holdKeys(t, head+" A", typed(" A")...)
		holdKeys(t, head+"/A", typed("/A")...)
		holdKeys(t, head+"\x7fA", some(Back, 0), char('A', 0))
		holdKeys(t, head+"\x80A", typed("\uFFFDA")...)
		holdKeys(t, head+"\xffA", typed("\uFFFDA")...)
		for _, r := range longRunes {
			s := string(r)
			holdKeys(t, head+s+"A", char(r, 0), char('A', 0))
			for n := 1; n < len(s); n++ {
				holdWaits(t, head+s[:n], n)
				holdKeys(t, head+s[:n]+"A", append(oddKeys(n, 0), char('A', 0))...)
			}
		}
	}
	for _, c := range "0123456789:;<=>?" {
		holdKeys(t, "\x1bO"+string(c), char(c, 0))
		holdKeys(t, "\x1bO"+string(c)+";5A", typed(string(c)+";5A")...)
	}
}

// P20.1: what waits

func TestWaiting(t *testing.T) {
	for b, waiting := range map[string]int{
		"": 0, "\x1b": 1, "\x1b[": 2, "\x1bO": 2, "\x1b[1": 3, "\x1b[1;": 4, "\x1b[1;5": 5, "\x1b[;": 3, "\x1b[?": 3, "\x1b[????????????": 14,
		"\xc3": 1, "\xe2": 1, "\xe2\x82": 2, "\xf0": 1, "\xf0\x9f": 2, "\xf0\x9f\x98": 3,
		"\x1b\xc3": 2, "\x1b\xe2": 2, "\x1b\xe2\x82": 3, "\x1b\xf0": 2, "\x1b\xf0\x9f": 3, "\x1b\xf0\x9f\x98": 4,
	} {
		holdWaits(t, b, waiting)
		if strings.HasPrefix(b, "\x1b") {
			holdWaits(t, "\x1b"+b, waiting)
		} else {
			holdWaits(t, "\x1b"+b, waiting+1)
		}
		for ahead, k := range map[string]Key{"a": char('a', 0), "\x01": char('a', 4), "\x1b[1;5D": some(Left, 4), "\x1b\r": some(Enter, 2), "\u20AC": char(0x20AC, 0), "\x1b\xff": char(0xFFFD, 2)} {
			holdWaits(t, ahead+b, waiting, k)
		}
		for _, ahead := range []string{"\x1b[Q", "\x1b[1;;5A", "\x1bO@", "\x1b[99~"} {
			holdWaits(t, ahead+b, waiting)
		}
	}
}

func TestManyKeys(t *testing.T) {
	holdKeys(t, "a\u4e2d\r\n\t\x7f\x08\x01\x1b[A\x1bOB\x1b[3~\x1b[4;2~\x1b[Z\x1b\x01\x1b\r",
		char('a', 0), char(0x4e2d, 0), some(Enter, 0), some(Enter, 4), some(Tab, 0), some(Back, 0), some(Back, 0), char('a', 4),
		some(Up, 0), some(Down, 0), some(Delete, 0), some(End, 1), some(Tab, 1), char('a', 6), some(Enter, 2))
	holdKeys(t, "\x1b[1;5C", some(Right, 4))
	holdKeys(t, "\x1bx", char('x', 2))
}
