package utf

import (
	"bytes"
	"slices"
	"testing"

	"stylus/api"
)

// valid follows the words of the document, so that the tests do not lean on
// the library that the package leans on.
func valid(r rune) bool {
	return 0 <= r && r <= 1114111 && (r < 55296 || r > 57343)
}

// encoding is that of the document, by arithmetic.
func encoding(r rune) string {
	if !valid(r) {
		r = 0xFFFD
	}
	switch {
	case r < 128:
		return string([]byte{byte(r)})
	case r < 2048:
		return string([]byte{192 + byte(r/64), 128 + byte(r%64)})
	case r < 65536:
		return string([]byte{224 + byte(r/4096), 128 + byte(r/64%64), 128 + byte(r%64)})
	}
	return string([]byte{240 + byte(r/262144), 128 + byte(r/4096%64), 128 + byte(r/64%64), 128 + byte(r%64)})
}

// sequences holds all complete sequences with their runes, and all incomplete ones.
type sequences struct {
	complete   map[string]rune
	incomplete map[string]bool
}

func allSequences() sequences {
	s := sequences{map[string]rune{}, map[string]bool{}}
	for r := rune(0); r <= 1114111; r++ {
		if !valid(r) {
			continue
		}
		e := encoding(r)
		s.complete[e] = r
		for n := 1; n < len(e); n++ {
			s.incomplete[e[:n]] = true
		}
	}
	return s
}

func (s sequences) first(b string) (rune, int) {
	for n := 1; n <= 4 && n <= len(b); n++ {
		if r, ok := s.complete[b[:n]]; ok {
			return r, n
		}
	}
	if b == "" || s.incomplete[b] {
		return 0, 0
	}
	return 0xFFFD, 1
}

func (s sequences) decode(b string) []rune {
	var l []rune
	for b != "" {
		r, n := s.first(b)
		if n == 0 {
			r, n = 0xFFFD, 1
		}
		l = append(l, r)
		b = b[n:]
	}
	return l
}

// edgeBytes lie on both sides of every border between kinds of bytes.
func edgeBytes() []byte {
	return []byte{
		0x00, 0x01, 0x41, 0x7F, 0x80, 0x81, 0x8F, 0x90, 0x9F, 0xA0, 0xBE, 0xBF,
		0xC0, 0xC1, 0xC2, 0xC3, 0xDE, 0xDF, 0xE0, 0xE1, 0xEC, 0xED, 0xEE, 0xEF,
		0xF0, 0xF1, 0xF3, 0xF4, 0xF5, 0xF7, 0xF8, 0xFB, 0xFC, 0xFE, 0xFF,
	}
}

// eachOfEdges calls f for all bytes of a length that consist of edge bytes.
func eachOfEdges(length int, f func(b []byte)) {
	b := make([]byte, length)
	var fill func(at int)
	fill = func(at int) {
		if at == length {
			f(b)
			return
		}
		for _, x := range edgeBytes() {
			b[at] = x
			fill(at + 1)
		}
	}
	fill(0)
}

// P1.1

func TestRightAtEdges(t *testing.T) {
	for _, c := range []struct {
		r    rune
		want bool
	}{
		{-2147483648, false}, {-57343, false}, {-55296, false}, {-1, false},
		{0, true}, {'a', true}, {127, true}, {128, true}, {2047, true}, {2048, true},
		{55295, true}, {55296, false}, {56319, false}, {56320, false}, {57343, false}, {57344, true},
		{65533, true}, {65534, true}, {65535, true}, {65536, true},
		{1114111, true}, {1114112, false}, {2147483647, false},
	} {
		if got := Right(c.r); got != c.want {
			t.Errorf("Right(%d): %v, want %v", c.r, got, c.want)
		}
	}
}

func TestRightOfAllRunes(t *testing.T) {
	for r := rune(-70000); r < 1200000; r++ {
		if Right(r) != valid(r) {
			t.Fatalf("Right(%d): %v, want %v", r, Right(r), valid(r))
		}
	}
}

func TestEncodeAtEdges(t *testing.T) {
	for _, c := range []struct {
		r    rune
		want []byte
	}{
		{0, []byte{0}}, {'a', []byte{97}}, {127, []byte{127}},
		{128, []byte{194, 128}}, {2047, []byte{223, 191}},
		{2048, []byte{224, 160, 128}}, {0x20AC, []byte{226, 130, 172}},
		{55295, []byte{237, 159, 191}}, {57344, []byte{238, 128, 128}},
		{65533, []byte{239, 191, 189}}, {65535, []byte{239, 191, 191}},
		{65536, []byte{240, 144, 128, 128}}, {1114111, []byte{244, 143, 191, 191}},
		{55296, []byte{239, 191, 189}}, {57343, []byte{239, 191, 189}}, {1114112, []byte{239, 191, 189}},
		{2147483647, []byte{239, 191, 189}}, {-1, []byte{239, 191, 189}}, {-2147483648, []byte{239, 191, 189}},
	} {
		if got := Encode([]rune{c.r}); !bytes.Equal(got, c.want) {
			t.Errorf("Encode(%d): %v, want %v", c.r, got, c.want)
		}
	}
}

func TestEncodeOfAllRunes(t *testing.T) {
	for r := rune(-70000); r < 1200000; r++ {
		if got := Encode([]rune{r}); string(got) != encoding(r) {
			t.Fatalf("Encode(%d): %v, want %v", r, got, []byte(encoding(r)))
		}
	}
}

func TestEncodeJoinsInOrder(t *testing.T) {
	l := []rune{'a', 0x20AC, -1, 0, 0x1F600, 0xD800, 0xE9, 0x110000, 'b'}
	want := "a\xe2\x82\xac\xef\xbf\xbd\x00\xf0\x9f\x98\x80\xef\xbf\xbd\xc3\xa9\xef\xbf\xbdb"
	if got := Encode(l); string(got) != want {
		t.Errorf("Encode: %x, want %x", got, want)
	}
	for _, l := range [][]rune{nil, {}} {
		if got := Encode(l); len(got) != 0 {
			t.Errorf("Encode of no runes: %x", got)
		}
	}
}

// P1.2

func TestFirstAtEdges(t *testing.T) {
	for _, c := range []struct {
		b string
		r rune
		n int
	}{
		{"", 0, 0},
		{"\x00", 0, 1}, {"\x00a", 0, 1}, {"a", 'a', 1}, {"ab", 'a', 1}, {"a\xff", 'a', 1}, {"\x7f", 127, 1},
		{"\xc2\x80", 128, 2}, {"\xdf\xbf", 2047, 2}, {"\xc3\xa9\xa9", 0xE9, 2},
		{"\xe0\xa0\x80", 2048, 3}, {"\xe2\x82\xac", 0x20AC, 3}, {"\xed\x9f\xbf", 55295, 3},
		{"\xee\x80\x80", 57344, 3}, {"\xef\xbf\xbd", 0xFFFD, 3}, {"\xef\xbf\xbf", 65535, 3},
		{"\xf0\x90\x80\x80", 65536, 4}, {"\xf4\x8f\xbf\xbf", 1114111, 4}, {"\xf0\x9f\x98\x80\x80", 0x1F600, 4},
		// Incomplete: nothing but the first bytes of a complete one.
		{"\xc2", 0, 0}, {"\xdf", 0, 0}, {"\xe0", 0, 0}, {"\xe0\xa0", 0, 0}, {"\xe2\x82", 0, 0}, {"\xed", 0, 0},
		{"\xed\x9f", 0, 0}, {"\xef\xbf", 0, 0}, {"\xf0", 0, 0}, {"\xf0\x90", 0, 0}, {"\xf0\x90\x80", 0, 0},
		{"\xf4", 0, 0}, {"\xf4\x8f", 0, 0}, {"\xf4\x8f\xbf", 0, 0},
		// Cut short by a byte that cannot follow.
		{"\xc2a", 0xFFFD, 1}, {"\xe2a", 0xFFFD, 1}, {"\xe2\x82a", 0xFFFD, 1}, {"\xe2\x82\xe2", 0xFFFD, 1},
		{"\xf0\x9f\x98a", 0xFFFD, 1}, {"\xf0\x9f\xc2", 0xFFFD, 1}, {"\xc2\xc2", 0xFFFD, 1},
		// Too long for their rune, of surrogates, and beyond the last rune.
		{"\xc0", 0xFFFD, 1}, {"\xc0\x80", 0xFFFD, 1}, {"\xc1\xbf", 0xFFFD, 1}, {"\xe0\x80", 0xFFFD, 1},
		{"\xe0\x9f\xbf", 0xFFFD, 1}, {"\xf0\x80", 0xFFFD, 1}, {"\xf0\x8f\xbf\xbf", 0xFFFD, 1},
		{"\xed\xa0", 0xFFFD, 1}, {"\xed\xa0\x80", 0xFFFD, 1}, {"\xed\xbf\xbf", 0xFFFD, 1},
		{"\xf4\x90", 0xFFFD, 1}, {"\xf4\x90\x80\x80", 0xFFFD, 1}, {"\xf5", 0xFFFD, 1}, {"\xf8\x88\x80\x80\x80", 0xFFFD, 1},
		// Bytes with which no sequence begins.
		{"\x80", 0xFFFD, 1}, {"\xbf", 0xFFFD, 1}, {"\x80\x80", 0xFFFD, 1}, {"\xfe", 0xFFFD, 1}, {"\xff", 0xFFFD, 1},
	} {
		if r, n := First([]byte(c.b)); r != c.r || n != c.n {
			t.Errorf("First(%x): %d, %d, want %d, %d", c.b, r, n, c.r, c.n)
		}
	}
	if r, n := First(nil); r != 0 || n != 0 {
		t.Errorf("First(nil): %d, %d", r, n)
	}
}

func TestDecodeAtEdges(t *testing.T) {
	const odd = api.Odd
	for _, c := range []struct {
		b    string
		want []rune
	}{
		{"", nil},
		{"abc", []rune{'a', 'b', 'c'}},
		{"\x00\x00", []rune{0, 0}},
		{"a\xe2\x82\xac\xf0\x9f\x98\x80\xc3\xa9", []rune{'a', 0x20AC, 0x1F600, 0xE9}},
		{"\xef\xbf\xbd", []rune{odd}},
		{"\xf0\x9f\x98", []rune{odd, odd, odd}},
		{"a\xe2\x82b\xf0\x9f", []rune{'a', odd, odd, 'b', odd, odd}},
		{"\xe2\xe2\x82\xac", []rune{odd, 0x20AC}},
		{"\xf0\x9f\x98\xe2\x82\xac", []rune{odd, odd, odd, 0x20AC}},
		{"\xed\xa0\x80", []rune{odd, odd, odd}},
		{"\xc0\x80", []rune{odd, odd}},
		{"\xf4\x90\x80\x80", []rune{odd, odd, odd, odd}},
		{"\xf0\x9f\x98\x80\x80", []rune{0x1F600, odd}},
		{"\xff\x00\xfe", []rune{odd, 0, odd}},
	} {
		if got := Decode([]byte(c.b)); !slices.Equal(got, c.want) {
			t.Errorf("Decode(%x): %x, want %x", c.b, got, c.want)
		}
	}
	if got := Decode(nil); len(got) != 0 {
		t.Errorf("Decode(nil): %x", got)
	}
}

func TestFirstAndDecodeOfManyBytes(t *testing.T) {
	s := allSequences()
	check := func(b []byte) {
		r, n := First(b)
		if wr, wn := s.first(string(b)); r != wr || n != wn {
			t.Fatalf("First(%x): %d, %d, want %d, %d", b, r, n, wr, wn)
		}
		if got, want := Decode(b), s.decode(string(b)); !slices.Equal(got, want) {
			t.Fatalf("Decode(%x): %x, want %x", b, got, want)
		}
	}
	for i := range 65536 {
		check([]byte{byte(i >> 8)})
		check([]byte{byte(i >> 8), byte(i)})
	}
	for length := range 5 {
		eachOfEdges(length, check)
	}
}

// P1.3

func TestDecodeUndoesEncode(t *testing.T) {
	var all []rune
	for r := rune(0); r <= 1114111; r++ {
		if !valid(r) {
			continue
		}
		all = append(all, r)
		b := Encode([]rune{r})
		if got, n := First(b); got != r || n != len(b) {
			t.Fatalf("First(Encode(%d)): %d, %d", r, got, n)
		}
		if got := Decode(b); len(got) != 1 || got[0] != r {
			t.Fatalf("Decode(Encode(%d)): %d", r, got)
		}
	}
	if !slices.Equal(Decode(Encode(all)), all) {
		t.Error("all valid runes, encoded as one text, are not decoded from it")
	}
	if got, want := Decode(Encode([]rune{-1, 'a', 0xDFFF, 0x110000})), []rune{api.Odd, 'a', api.Odd, api.Odd}; !slices.Equal(got, want) {
		t.Errorf("runes that are not valid: %x, want %x", got, want)
	}
}

func TestDecodedRunesAreValid(t *testing.T) {
	for length := range 5 {
		eachOfEdges(length, func(b []byte) {
			for _, r := range Decode(b) {
				if !valid(r) {
					t.Fatalf("Decode(%x): %d", b, r)
				}
			}
			if r, _ := First(b); !valid(r) {
				t.Fatalf("First(%x): %d", b, r)
			}
		})
	}
}

func TestDecodeOfJoinedTexts(t *testing.T) {
	heads := []string{
		"", "a", "\x00", "\x7f", "\xc2\x80", "\xdf\xbf", "\xe2\x82\xac", "\xed\x9f\xbf", "\xee\x80\x80",
		"\xef\xbf\xbd", "\xf0\x90\x80\x80", "\xf4\x8f\xbf\xbf", "a\xc3\xa9", "\xe2\x82\xac\xf0\x9f\x98\x80",
	}
	for _, head := range heads {
		for length := range 4 {
			eachOfEdges(length, func(tail []byte) {
				got := Decode(append([]byte(head), tail...))
				want := append(Decode([]byte(head)), Decode(tail)...)
				if !slices.Equal(got, want) {
					t.Fatalf("Decode(%x %x): %x, want %x", head, tail, got, want)
				}
			})
		}
	}
}

// P0, R1 to R5

func TestOddIsWhatTheRangeYields(t *testing.T) {
	for _, r := range "\xff" {
		if r != api.Odd {
			t.Errorf("a range over bytes without sequences yields %x", r)
		}
	}
}

func TestArgumentsAreNeitherChangedNorKept(t *testing.T) {
	l := []rune{'a', -1, 0x20AC}
	encoded := Encode(l)
	if !slices.Equal(l, []rune{'a', -1, 0x20AC}) {
		t.Errorf("Encode changed its argument: %x", l)
	}
	b := []byte("a\xff\xe2\x82\xac")
	decoded := Decode(b)
	First(b)
	if string(b) != "a\xff\xe2\x82\xac" {
		t.Errorf("First or Decode changed its argument: %x", b)
	}
	clear(l)
	clear(b)
	if string(encoded) != "a\xef\xbf\xbd\xe2\x82\xac" {
		t.Errorf("Encode shares memory with its argument: %x", encoded)
	}
	if !slices.Equal(decoded, []rune{'a', api.Odd, 0x20AC}) {
		t.Errorf("Decode shares memory with its argument: %x", decoded)
	}
}

func TestBytesBeyondTheLengthDoNotCount(t *testing.T) {
	b := []byte("a\xe2\x82\xac")
	if r, n := First(b[1:3]); r != 0 || n != 0 {
		t.Errorf("First of an incomplete sequence with room behind it: %d, %d", r, n)
	}
	if got, want := Decode(b[:3]), []rune{'a', api.Odd, api.Odd}; !slices.Equal(got, want) {
		t.Errorf("Decode of an incomplete end with room behind it: %x, want %x", got, want)
	}
}

func TestResultsAreNewMemory(t *testing.T) {
	l, b := []rune{'a', 'b'}, []byte("ab")
	clear(Encode(l))
	clear(Decode(b))
	if string(Encode(l)) != "ab" || !slices.Equal(Decode(b), []rune{'a', 'b'}) {
		t.Error("a later result depends on what was done with an earlier one")
	}
}
