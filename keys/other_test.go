package keys

import (
	"bytes"
	"slices"
	"testing"
)

// R1

func TestAnyBytes(t *testing.T) {
	l := lot(1)
	for range 2000 {
		b := make([]byte, l.draw(40))
		for i := range b {
			b[i] = byte(l.draw(256))
		}
		holdWords(t, b)
		holdWords(t, l.cut(b)...)
	}
}

func TestNilAndEmptyLists(t *testing.T) {
	for _, waits := range []string{"", "\x1b", "\x1b[", "\x1b[1;5", "\x1b[000000000000", "\x1bO", "\xe2\x82", "\x1b\xf0\x9f\x98"} {
		for _, none := range [][]byte{nil, {}, make([]byte, 0, 9), []byte("abc")[:0]} {
			d := New()
			d.Feed([]byte(waits))
			for range 3 {
				if l := d.Feed(none); len(l) != 0 || d.Waiting() != len(waits) {
					t.Errorf("Feed of nothing behind %q: %v, %d wait", waits, l, d.Waiting())
				}
			}
			if l, want := d.Flush(), wordsFlush([]byte(waits)); !slices.Equal(l, want) {
				t.Errorf("Flush behind %q: %v, want %v", waits, l, want)
			}
			if l := d.Feed(none); len(l) != 0 || d.Waiting() != 0 {
				t.Errorf("Feed of nothing behind Flush: %v, %d wait", l, d.Waiting())
			}
		}
	}
}

// R3

// samples hold keys of all kinds, and end in each kind of what waits.
var samples = []string{
	"", "a", "a\r\n\t\x7f\x01", "\x1b[A\x1b[1;5C\x1bOB\x1b[3~", "\u20AC\x1b\u20AC\x1bx", "a\xff\x1b\xff",
	"a\x1b", "a\x1b[", "a\x1bO", "a\x1b[1;5", "a\x1b[000000000000", "a\xe2", "a\xe2\x82", "a\x1b\xf0\x9f\x98", "\x1b", "\x1b[1;", "\x1b\xe2", "\xf0\x9f",
}

// endings follow the samples.
var endings = []string{"", "C", "[A", "\x82\xac", "\x80", "\xac", "0", "\x1b[B", "x"}

func TestBytesStayAsTheyAre(t *testing.T) {
	for _, s := range samples {
		for _, ending := range endings {
			d := New()
			for _, part := range []string{s, ending, s} {
				all := []byte(part + "ROOM")
				d.Feed(all[:len(part)])
				if string(all) != part+"ROOM" {
					t.Errorf("Feed(%q): the bytes became %q", part, all)
				}
				d.Feed([]byte(ending))
				d.Feed([]byte("C\x1b[1;5"))
				d.Flush()
				if string(all) != part+"ROOM" {
					t.Errorf("%q became %q later", part, all)
				}
			}
		}
	}
}

// The caller changes the bytes that it handed in while some of them wait.
func TestBytesAreNotKept(t *testing.T) {
	for _, s := range samples {
		for _, ending := range endings {
			for cut := range len(s) + 1 {
				d := New()
				var l []Key
				for _, part := range []string{s[:cut], s[cut:], ending} {
					all := []byte(part + "ROOM")
					l = append(l, d.Feed(all[:len(part)])...)
					for i := range all {
						all[i] = 'z'
					}
				}
				want, rest := wordsKeys([]byte(s + ending))
				if !slices.Equal(l, want) || d.Waiting() != len(rest) {
					t.Errorf("Feed(%q, %q, %q): %v, %d wait, want %v, %d", s[:cut], s[cut:], ending, l, d.Waiting(), want, len(rest))
				}
				if l, want := d.Flush(), wordsFlush(rest); !slices.Equal(l, want) {
					t.Errorf("Flush behind %q and %q: %v, want %v", s, ending, l, want)
				}
			}
		}
	}
}

// The same memory is handed in again and again.
func TestSameMemoryForAllParts(t *testing.T) {
	l := lot(8)
	memory := make([]byte, 4)
	for range 3000 {
		b := l.drawn(8)
		d := New()
		var got []Key
		for part := range slices.Chunk(b, 1+l.draw(4)) {
			n := copy(memory, part)
			got = append(got, d.Feed(memory[:n])...)
		}
		if want, rest := wordsKeys(b); !slices.Equal(got, want) || d.Waiting() != len(rest) {
			t.Errorf("Feed(%q): %v, %d wait, want %v, %d", b, got, d.Waiting(), want, len(rest))
		}
	}
}

// spoil writes over all memory of a list, and appends to it.
func spoil(l []Key) {
	l = l[:cap(l)]
	for i := range l {
		l[i] = Key{-1, -1, -1}
	}
}

func TestKeysAreNewMemory(t *testing.T) {
	for _, s := range samples {
		for _, ending := range endings {
			d, other := New(), New()
			for range 2 {
				for _, part := range []string{s, ending} {
					l, as := d.Feed([]byte(part)), other.Feed([]byte(part))
					keep := slices.Clone(as)
					if !slices.Equal(l, as) {
						t.Errorf("Feed(%q): %v, want %v", part, l, as)
					}
					spoil(l)
					if !slices.Equal(as, keep) || d.Waiting() != other.Waiting() {
						t.Errorf("Feed(%q): another list became %v, %d wait", part, as, d.Waiting())
					}
				}
				l, as := d.Flush(), other.Flush()
				keep := slices.Clone(as)
				if !slices.Equal(l, as) {
					t.Errorf("Flush behind %q, %q: %v, want %v", s, ending, l, as)
				}
				spoil(l)
				if !slices.Equal(as, keep) {
					t.Errorf("Flush behind %q, %q: another list became %v", s, ending, as)
				}
			}
		}
	}
}

// Keys that were returned stay as they are, whatever is done with the decoder.
func TestKeysStayAsTheyAre(t *testing.T) {
	l := lot(31)
	d := New()
	var lists, copies [][]Key
	for range 500 {
		got := d.Feed(l.drawn(4))
		lists, copies = append(lists, got), append(copies, slices.Clone(got))
		if l.draw(5) == 0 {
			got = d.Flush()
			lists, copies = append(lists, got), append(copies, slices.Clone(got))
		}
	}
	for i := range lists {
		if !slices.Equal(lists[i], copies[i]) {
			t.Errorf("list %d: %v, and then %v", i, copies[i], lists[i])
		}
	}
}

// No more is kept than what waits.
func TestLittleIsKept(t *testing.T) {
	d := New()
	for range 3 {
		d.Feed(append(bytes.Repeat([]byte{'a'}, 1000000), "\x1b[000000000000"...))
		if n := cap(d.waiting); n > 64 {
			t.Errorf("room for %d bytes is kept", n)
		}
	}
}

// R4

func TestSameCallsGiveTheSame(t *testing.T) {
	run := func() (got [][]Key, waits []int) {
		l := lot(44)
		d := New()
		for range 3000 {
			got = append(got, d.Feed(l.drawn(3)))
			waits = append(waits, d.Waiting())
			if l.draw(6) == 0 {
				got = append(got, d.Flush())
			}
		}
		return got, waits
	}
	got, waits := run()
	for range 3 {
		again, also := run()
		if !slices.EqualFunc(got, again, slices.Equal) || !slices.Equal(waits, also) {
			t.Error("the same calls gave something else")
		}
	}
}

func TestDecodersHaveNothingInCommon(t *testing.T) {
	for _, s := range samples {
		for _, other := range samples {
			c, d := New(), New()
			c.Feed([]byte(s))
			d.Feed([]byte(other))
			for _, ending := range endings {
				_, rest := wordsKeys([]byte(s))
				want, rest := wordsKeys(append(slices.Clone(rest), ending...))
				if l := c.Feed([]byte(ending)); !slices.Equal(l, want) || c.Waiting() != len(rest) {
					t.Errorf("Feed(%q) behind %q, beside %q: %v, %d wait, want %v, %d", ending, s, other, l, c.Waiting(), want, len(rest))
				}
				_, kept := wordsKeys([]byte(other))
				if d.Waiting() != len(kept) {
					t.Errorf("beside %q: %d wait behind %q, want %d", s, d.Waiting(), other, len(kept))
				}
				c.Flush()
				if l, want := d.Flush(), wordsFlush(kept); !slices.Equal(l, want) {
					t.Errorf("Flush behind %q, beside %q: %v, want %v", other, s, l, want)
				}
				c.Feed([]byte(s))
				d.Feed([]byte(other))
			}
		}
	}
}
