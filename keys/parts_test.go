package keys

import (
	"bytes"
	"slices"
	"testing"
)

// outcome is what bytes come to.
type outcome struct {
	keys    []Key
	waiting int
	flushed []Key
}

func (o outcome) equal(p outcome) bool {
	return slices.Equal(o.keys, p.keys) && o.waiting == p.waiting && slices.Equal(o.flushed, p.flushed)
}

// fed returns what parts come to.
func fed(parts ...[]byte) outcome {
	d := New()
	var o outcome
	for _, part := range parts {
		o.keys = append(o.keys, d.Feed(part)...)
	}
	o.waiting = d.Waiting()
	o.flushed = d.Flush()
	return o
}

// holdParts holds that bytes come to the same however they are cut, with up to two
// cuts, or everywhere.
func holdParts(t *testing.T, b []byte) {
	t.Helper()
	want := fed(b)
	hold := func(parts ...[]byte) {
		t.Helper()
		if o := fed(parts...); !o.equal(want) {
			t.Errorf("%q: %v, want %v", parts, o, want)
		}
	}
	for i := range len(b) + 1 {
		hold(b[:i], b[i:])
		hold(nil, b[:i], nil, []byte{}, b[i:], []byte{})
		for k := i; k <= len(b); k++ {
			hold(b[:i], b[i:k], b[k:])
			hold(b[:i], nil, b[i:k], []byte{}, b[k:])
		}
	}
	var each [][]byte
	for i := range b {
		each = append(each, b[i:i+1], nil)
	}
	hold(each...)
}

// P20.3

func TestPartsOfSamples(t *testing.T) {
	for _, b := range []string{
		"", "a", "ab", "\r\n\t\x08\x7f\x00\x1f", "\x1b", "\x1b\x1b", "\x1b\x1b\x1b", "\x1b\x1b\x1bx", "\x1b\x1b[A", "\x1b\x1b\x1b[A", "\x1b\x1bx",
		"\x1b[A", "\x1b[1;5C", "\x1b[3~", "\x1b[8;8~q", "\x1b[Z\x1b[1;6Z", "\x1bOA\x1bOO\x1bO1", "\x1bO\x1b[A", "\x1bO\x1bOA", "\x1b[[A", "\x1bO[A",
		"\x1b[001;005;123A", "\x1b[0000000000000A", "\x1b[00000000000000A", "\x1b[000000000000", "\x1b[000000000000\x1b[A", "\x1b[1;5\x1b[1;5C", "\x1b[1;5\rq", "\x1b[1\x7fq", "\x1b[?1hq", "\x1b[1;\x1b", "\x1b[;5A\x1b[1;A",
		"\u20AC\u00E9\U0001F600", "\x1b\u20AC\x1b\u00E9\x1b\U0001F600", "\xe2\x82", "\xe2\x82a", "\x1b\xe2\x82a", "\x1b\xe2\x82", "\xf0\x9f\x98", "\x1b\xf0\x9f\x98", "\x1b\xf0\x9f\x98\x1b[A", "\xf0\x9f\x98\U0001F600",
		"\x1b[1;5\u20AC", "\x1b[1;5\xe2\x82", "\x1bO\u20AC", "\x1b[\xf0\x9f\x98\x80", "\xed\xa0\x80", "\x1b\xed\xa0\x80", "\xc0\x80\xff", "\x1b\xff\x1b\x80", "\xf4\x90\x80\x80",
		"a\x1b[Ab\x1b\x01c\x1b[1;2Dd\u4e2de\x1bOFf\x1b",
	} {
		holdParts(t, []byte(b))
	}
}

func TestPartsOfSmallTexts(t *testing.T) {
	for _, of := range []string{"\x1b[1;A", "\x1bO[~3", "\x1b\xf0\x9f\x98a", "\x1b\xe2\x82\r\xac"} {
		texts(of, 5, func(b []byte) {
			holdParts(t, b)
		})
	}
}

func TestPartsOfDrawnTexts(t *testing.T) {
	l := lot(5)
	for range 1000 {
		holdParts(t, l.drawn(7))
	}
}

// A sequence that waits, and is broken only by the next part.
func TestBrokenByTheNextPart(t *testing.T) {
	for _, c := range []struct {
		waits, next string
		waiting     int
		want        []Key
	}{
		{"\x1b", "\x1b", 1, nil},
		{"\x1b", "\x1b[A", 0, []Key{some(Up, 0)}},
		{"\x1b[", "\x1b", 1, nil},
		{"\x1b[1;5", "\x1b[A", 0, []Key{some(Up, 0)}},
		{"\x1b[1;5", "\r", 0, []Key{some(Enter, 0)}},
		{"\x1b[1;5", "\x7fC", 0, []Key{some(Back, 0), char('C', 0)}},
		{"\x1b[1;5", "\xe2", 1, nil},
		{"\x1b[1;5", "\u20AC", 0, typed("\u20AC")},
		{"\x1b[1;5", "\xff", 0, oddKeys(1, 0)},
		{"\x1b[000000000000", "0A", 0, typed("0A")},
		{"\x1b[000000000000", "\x1bA", 0, []Key{char('A', 2)}},
		{"\x1bO", "1A", 0, typed("1A")},
		{"\x1bO", "\x1b", 1, nil},
		{"\x1bO", "\xf0\x9f", 2, nil},
		{"\xe2\x82", "a", 0, append(oddKeys(2, 0), char('a', 0))},
		{"\x1b\xe2\x82", "a", 0, append(oddKeys(2, 2), char('a', 0))},
		{"\x1b\xf0\x9f\x98", "\x1b", 1, oddKeys(3, 2)},
		{"\xf0\x9f\x98", "\xf0\x9f", 2, oddKeys(3, 0)},
		{"\xed", "\xa0\x80", 0, oddKeys(3, 0)},
		{"\xf4", "\x90", 0, oddKeys(2, 0)},
	} {
		d := New()
		if l := d.Feed([]byte(c.waits)); len(l) != 0 || d.Waiting() != len(c.waits) {
			t.Errorf("Feed(%q): %v, %d wait", c.waits, l, d.Waiting())
		}
		for range 3 {
			if l := d.Feed(nil); len(l) != 0 || d.Waiting() != len(c.waits) {
				t.Errorf("Feed(nil) behind %q: %v, %d wait", c.waits, l, d.Waiting())
			}
		}
		if l := d.Feed([]byte(c.next)); !slices.Equal(l, c.want) || d.Waiting() != c.waiting {
			t.Errorf("Feed(%q) behind %q: %v, %d wait, want %v, %d", c.next, c.waits, l, d.Waiting(), c.want, c.waiting)
		}
	}
}

// The keys of a part come with it, not later.
func TestKeysComeWithTheirBytes(t *testing.T) {
	d := New()
	for _, c := range []struct {
		b       string
		want    []Key
		waiting int
	}{
		{"a\x1b", typed("a"), 1}, {"[", nil, 2}, {"1;", nil, 4}, {"5", nil, 5}, {"C", []Key{some(Right, 4)}, 0}, {"b\xe2", typed("b"), 1}, {"\x82", nil, 2}, {"", nil, 2},
		{"\xac\x1b", typed("\u20AC"), 1}, {"\xf0", nil, 2}, {"\x9f\x98", nil, 4}, {"\x80\x1bO", []Key{char(0x1F600, 2)}, 2}, {"F\xff", []Key{some(End, 0), char(0xFFFD, 0)}, 0},
	} {
		if l := d.Feed([]byte(c.b)); !slices.Equal(l, c.want) || d.Waiting() != c.waiting {
			t.Errorf("Feed(%q): %v, %d wait, want %v, %d", c.b, l, d.Waiting(), c.want, c.waiting)
		}
	}
}

func TestManyParts(t *testing.T) {
	d := New()
	var l []Key
	for range 50000 {
		for _, part := range []string{"a\x1b", "[1", ";5", "C\xe2", "\x82", "\xac\x1b\x1b", "O", "", "F"} {
			l = append(l, d.Feed([]byte(part))...)
		}
	}
	want := []Key{char('a', 0), some(Right, 4), char(0x20AC, 0), some(End, 0)}
	if !slices.Equal(l, slices.Repeat(want, 50000)) || d.Waiting() != 0 {
		t.Errorf("%d keys, %d bytes wait", len(l), d.Waiting())
	}
}

func TestLongInputs(t *testing.T) {
	const n = 100000
	for _, c := range []struct {
		piece   string
		keys    []Key
		waiting int
	}{
		{"a", typed("a"), 0},
		{"\x1b", nil, 1},
		{"\x1b[", nil, 2},
		{"\x1bO", nil, 2},
		{"\x1b[A", []Key{some(Up, 0)}, 0},
		{"\x1b[Q", nil, 0},
		{"\x1b[0000000000001", typed("1"), 0},
		{"\u20AC\x1b\r", []Key{char(0x20AC, 0), some(Enter, 2)}, 0},
		{"\xff", oddKeys(1, 0), 0},
	} {
		b := bytes.Repeat([]byte(c.piece), n)
		want := outcome{keys: slices.Repeat(c.keys, n), waiting: c.waiting}
		for _, size := range []int{len(b), 100000, 1000, 7, 1} {
			o := fed(slices.Collect(slices.Chunk(b, size))...)
			o.flushed = nil
			if !o.equal(want) {
				t.Errorf("%q in parts of %d: %d keys, %d bytes wait", c.piece, size, len(o.keys), o.waiting)
			}
		}
	}
	l := New().Feed(append([]byte("\x1b["), bytes.Repeat([]byte{'1'}, n)...))
	if !slices.Equal(l, slices.Repeat(typed("1"), n-12)) {
		t.Errorf("a long sequence: %d keys", len(l))
	}
}
