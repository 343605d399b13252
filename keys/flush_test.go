package keys

import (
	"slices"
	"strings"
	"testing"
)

// holdFlush holds what Flush returns behind bytes, that nothing waits then, and
// that what is fed next is as for a new decoder.
func holdFlush(t *testing.T, b string, want ...Key) {
	t.Helper()
	for _, next := range []string{"", "a", "A", "[A", "OA", ";5A", "\x80", "\x82\xac", "\x1b", "\x1b[A", "\x1b[1;", "\xe2", "\xe2\x82\xac"} {
		d := New()
		d.Feed([]byte(b))
		if l := d.Flush(); !slices.Equal(l, want) || d.Waiting() != 0 {
			t.Errorf("Flush behind %q: %v, %d wait, want %v", b, l, d.Waiting(), want)
		}
		if l := d.Flush(); len(l) != 0 || d.Waiting() != 0 {
			t.Errorf("Flush behind %q, again: %v, %d wait", b, l, d.Waiting())
		}
		other := New()
		l, as := d.Feed([]byte(next)), other.Feed([]byte(next))
		if !slices.Equal(l, as) || d.Waiting() != other.Waiting() {
			t.Errorf("Feed(%q) behind a Flush behind %q: %v, %d wait, want %v, %d", next, b, l, d.Waiting(), as, other.Waiting())
		}
		if l, as := d.Flush(), other.Flush(); !slices.Equal(l, as) {
			t.Errorf("Flush behind %q behind a Flush behind %q: %v, want %v", next, b, l, as)
		}
	}
}

// P20.2

func TestFlushOfNothing(t *testing.T) {
	for _, b := range []string{"", "a", "\r", "\x7f", "\x00", "\x1bx", "\x1b\r", "\x1b[A", "\x1b[1;5C", "\x1bOB", "\x1b[Q", "\x1b[1;;A", "\x1bOQ", "\u20AC", "\x1b\u20AC", "\xff", "\x1b\xff", "\xe2a", "\x1b[\r", "\x1b[1x", "\x1bO1"} {
		holdFlush(t, b)
	}
}

func TestFlushOfEscape(t *testing.T) {
	for _, ahead := range []string{"", "a", "\x1b", "\x1b\x1b", "\x1b[", "\x1b[1;5", "\x1bO", "\xe2", "\xe2\x82", "\x1b\xf0\x9f\x98", "\x1b[A", "\u20AC"} {
		holdFlush(t, ahead+"\x1b", some(Escape, 0))
	}
}

func TestFlushOfRunes(t *testing.T) {
	for _, r := range longRunes {
		s := string(r)
		for n := 1; n < len(s); n++ {
			for _, ahead := range []string{"", "a", "\r", "\u20AC", "\x1bx", "\x1b[A", "\x1b[", "\x1b[1;5", "\x1bO", "\xff", "\x1b\xff"} {
				holdFlush(t, ahead+s[:n], oddKeys(n, 0)...)
				holdFlush(t, ahead+"\x1b"+s[:n], oddKeys(n, 2)...)
				holdFlush(t, ahead+"\x1b\x1b"+s[:n], oddKeys(n, 2)...)
			}
		}
	}
	holdFlush(t, "\xc3", char(0xFFFD, 0))
	holdFlush(t, "\xe4\xb8", char(0xFFFD, 0), char(0xFFFD, 0))
	holdFlush(t, "\xf0\x9f\x98", char(0xFFFD, 0), char(0xFFFD, 0), char(0xFFFD, 0))
	holdFlush(t, "\x1b\xc3", char(0xFFFD, 2))
	holdFlush(t, "\x1b\xe4\xb8", char(0xFFFD, 2), char(0xFFFD, 0))
	holdFlush(t, "\x1b\xf0\x9f\x98", char(0xFFFD, 2), char(0xFFFD, 0), char(0xFFFD, 0))
}

func TestFlushOfSequences(t *testing.T) {
	for _, b := range []string{"\x1b[", "\x1b[1", "\x1b[1;", "\x1b[1;5", "\x1b[3", "\x1b[?", "\x1b[;;;", "\x1b[000000000000", "\x1bO"} {
		for _, ahead := range []string{"", "a", "\x1b", "\x1b[A", "\x1bx", "\x1b[1;", "\x1bO", "\xe2"} {
			holdFlush(t, ahead+b)
		}
	}
	for n := range 13 {
		for c := byte(48); c <= 63; c++ {
			holdFlush(t, "\x1b["+strings.Repeat(string(rune(c)), n))
		}
	}
}

func TestFlushInTheMiddle(t *testing.T) {
	d := New()
	for _, c := range []struct {
		b       string
		fed     []Key
		waiting int
		keys    []Key
	}{
		{"a\x1b", typed("a"), 1, []Key{some(Escape, 0)}},
		{"[A", typed("[A"), 0, nil},
		{"\x1b[1;", nil, 4, nil},
		{"5C", typed("5C"), 0, nil},
		{"\xe2\x82", nil, 2, oddKeys(2, 0)},
		{"\xac", oddKeys(1, 0), 0, nil},
		{"\x1b\xe2\x82", nil, 3, oddKeys(2, 2)},
		{"\xac\x1b[D", append(oddKeys(1, 0), some(Left, 0)), 0, nil},
		{"\x1bO", nil, 2, nil},
		{"A\x1b\x1b", typed("A"), 1, []Key{some(Escape, 0)}},
		{"\x1bx", []Key{char('x', 2)}, 0, nil},
	} {
		if l := d.Feed([]byte(c.b)); !slices.Equal(l, c.fed) || d.Waiting() != c.waiting {
			t.Errorf("Feed(%q): %v, %d wait, want %v, %d", c.b, l, d.Waiting(), c.fed, c.waiting)
		}
		if l := d.Flush(); !slices.Equal(l, c.keys) || d.Waiting() != 0 {
			t.Errorf("Flush behind %q: %v, %d wait, want %v", c.b, l, d.Waiting(), c.keys)
		}
		if l := d.Flush(); len(l) != 0 || d.Waiting() != 0 {
			t.Errorf("Flush behind %q, again: %v, %d wait", c.b, l, d.Waiting())
		}
	}
}

func TestNilDecoder(t *testing.T) {
	var d *Decoder
	for range 2 {
		for _, b := range []string{"", "a", "\x1b", "\x1b[", "\x1b[A", "\xe2\x82", "\u20AC"} {
			if l := d.Feed([]byte(b)); len(l) != 0 {
				t.Errorf("Feed(%q): %v", b, l)
			}
			if n := d.Waiting(); n != 0 {
				t.Errorf("Waiting behind %q: %d", b, n)
			}
			if l := d.Flush(); len(l) != 0 {
				t.Errorf("Flush behind %q: %v", b, l)
			}
		}
		if l := d.Feed(nil); len(l) != 0 {
			t.Errorf("Feed(nil): %v", l)
		}
	}
}
