package keys

import (
	"regexp"
	"slices"
	"strings"
	"sync"
	"testing"
	"unicode/utf8"
)

// The chapter's words, as patterns of texts that have a rune for each byte.
var (
	wordsSequence = regexp.MustCompile(`^\x1b(?:\[([0-?]{0,12})|O)([@-~])`)
	wordsAlt      = regexp.MustCompile(`^\x1b[^\x1b\[O]`)
	wordsBroken   = regexp.MustCompile(`^(?:(\x1b)\x1b|(\x1b\[[0-?]{12})[0-?]|(\x1b\[[0-?]{0,12})[^0-~]|(\x1bO)[^@-~])`)
	wordsNumbers  = regexp.MustCompile(`^([0-9]{1,3}(;[0-9]{1,3})*)?$`)
)

// wordsFirst returns the keys of the first thing that b consists of, and its
// number of bytes; 0 if it waits.
func wordsFirst(b []byte) ([]Key, int) {
	var text strings.Builder
	for _, c := range b[:min(len(b), 20)] {
		text.WriteRune(rune(c))
	}
	s := text.String()
	if m := wordsSequence.FindStringSubmatch(s); m != nil {
		return wordsKey(m[1], m[2]), len(m[0])
	}
	if wordsAlt.MatchString(s) {
		l, n := wordsFirst(b[1:])
		if n == 0 {
			return nil, 0
		}
		l[0].Mods += 2
		return l, n + 1
	}
	if m := wordsBroken.FindStringSubmatch(s); m != nil {
		return nil, len(m[1] + m[2] + m[3] + m[4])
	}
	switch {
	case s == "" || s[0] == 27:
		return nil, 0
	case s[0] == 13:
		return []Key{{Kind: Enter}}, 1
	case s[0] == 10:
		return []Key{{Kind: Enter, Mods: 4}}, 1
	case s[0] == 9:
		return []Key{{Kind: Tab}}, 1
	case s[0] == 8 || s[0] == 127:
		return []Key{{Kind: Back}}, 1
	case s[0] < 32:
		return []Key{{Kind: Char, Rune: 96 + rune(s[0]), Mods: 4}}, 1
	}
	return wordsRune(b)
}

// wordsBegins has the first bytes of the runes that have more of them.
var wordsBegins = sync.OnceValue(func() map[string]bool {
	begins := map[string]bool{}
	for r := rune(128); r <= 0x10FFFF; r += 64 {
		if utf8.ValidRune(r) {
			s := string(r)
			for n := 1; n < len(s); n++ {
				begins[s[:n]] = true
			}
		}
	}
	return begins
})

func wordsRune(b []byte) ([]Key, int) {
	for n := 1; n <= min(4, len(b)); n++ {
		if l := []rune(string(b[:n])); len(l) == 1 && utf8.Valid(b[:n]) {
			return []Key{{Kind: Char, Rune: l[0]}}, n
		}
	}
	if len(b) < 4 && wordsBegins()[string(b)] {
		return nil, 0
	}
	return []Key{{Kind: Char, Rune: 0xFFFD}}, 1
}

func wordsKey(ahead, last string) []Key {
	if !wordsNumbers.MatchString(ahead) {
		return nil
	}
	numbers := strings.Split(ahead+";", ";")
	for i, n := range numbers {
		numbers[i] = strings.TrimLeft(n, "0")
	}
	k := Key{Mods: max(0, strings.Index("2345678", (numbers[1] + "x")[:1])+1)}
	if len(numbers[1]) != 1 {
		k.Mods = 0
	}
	if last == "~" {
		last += numbers[0]
	}
	if last == "Z" && k.Mods&1 == 0 {
		k.Mods++
	}
	k.Kind = map[string]int{
		"A": Up, "B": Down, "C": Right, "D": Left, "H": Home, "F": End, "Z": Tab,
		"~1": Home, "~7": Home, "~3": Delete, "~4": End, "~8": End,
	}[last]
	if k.Kind == 0 {
		return nil
	}
	return []Key{k}
}

// wordsKeys returns the keys of b, and what waits behind them.
func wordsKeys(b []byte) ([]Key, []byte) {
	var keys []Key
	for {
		l, n := wordsFirst(b)
		if n == 0 {
			return keys, b
		}
		keys, b = append(keys, l...), b[n:]
	}
}

// wordsFlush returns the keys of what waits.
func wordsFlush(b []byte) []Key {
	s := string(b)
	if s == "\x1b" {
		return []Key{{Kind: Escape}}
	}
	s, is := strings.CutPrefix(s, "\x1b")
	if is && strings.ContainsAny(s[:1], "[O") {
		return nil
	}
	var keys []Key
	for range len(s) {
		keys = append(keys, Key{Kind: Char, Rune: 0xFFFD})
	}
	if is {
		keys[0].Mods = 2
	}
	return keys
}

// holdWords holds that parts give what the words say of all their bytes.
func holdWords(t *testing.T, parts ...[]byte) {
	t.Helper()
	all := slices.Concat(parts...)
	want, rest := wordsKeys(all)
	d := New()
	var l []Key
	for _, part := range parts {
		l = append(l, d.Feed(part)...)
	}
	if !slices.Equal(l, want) || d.Waiting() != len(rest) {
		t.Errorf("Feed(%q): %v, %d wait, want %v, %d", parts, l, d.Waiting(), want, len(rest))
	}
	if l, want := d.Flush(), wordsFlush(rest); !slices.Equal(l, want) || d.Waiting() != 0 {
		t.Errorf("Flush behind %q: %v, %d wait, want %v", parts, l, d.Waiting(), want)
	}
}

// texts calls f with all texts of up to n of some bytes.
func texts(of string, n int, f func(b []byte)) {
	var fill func(b []byte)
	fill = func(b []byte) {
		f(slices.Clone(b))
		if len(b) < n {
			for i := range len(of) {
				fill(append(b, of[i]))
			}
		}
	}
	fill(nil)
}

// allBytes has each byte.
var allBytes = func() string {
	var b []byte
	for i := range 256 {
		b = append(b, byte(i))
	}
	return string(b)
}()

// Each two bytes, alone and behind what begins sequences.
func TestEachTwoBytes(t *testing.T) {
	for _, head := range []string{"", "\x1b", "\x1b[", "\x1bO", "\x1b[1;", "\xe2", "\x1b\xf0"} {
		texts(allBytes, 2, func(b []byte) {
			holdWords(t, []byte(head), b)
		})
	}
}

func TestAllSmallTexts(t *testing.T) {
	for _, c := range []struct {
		of string
		n  int
	}{
		{"\x1b[O1;A~\xe2\x82", 5},
		{"\x1b[5;Z\x7f", 6},
		{"\x1bO\n\xc3\xa9", 6},
		{"\x1b[OA", 7},
		{"\x1b\xf0\x9f\x98\x80", 6},
		{"\x1b\xed\x9f\xa0\xbf", 6},
		{"\xf4\x8f\x90\xbf\x80", 6},
		{"\x1b[", 10},
	} {
		texts(c.of, c.n, func(b []byte) {
			holdWords(t, b)
		})
	}
}

// All texts of some bytes ahead of the last one of a sequence.
func TestAllSmallNumbers(t *testing.T) {
	for _, c := range []struct {
		of string
		n  int
	}{
		{"012345678", 4}, {"0125;", 5}, {"38;", 7}, {"1;?", 6}, {"0;", 13}, {":;<=>?9", 4},
	} {
		texts(c.of, c.n, func(b []byte) {
			for _, last := range "AZ~" {
				holdWords(t, []byte("\x1b["), b, []byte(string(last)))
			}
		})
	}
}

// lot draws numbers, the same ones in each run.
type lot uint64

func (l *lot) draw(n int) int {
	*l = *l*6364136223846793005 + 1442695040888963407
	return int(uint64(*l) >> 33 % uint64(n))
}

// pieces are what drawn inputs consist of.
var pieces = []string{
	"\x1b", "\x1b[", "\x1bO", "\x1b[1;", "\x1b[A", "\x1b[1;5C", "\x1b[3~", "\x1b[Z", "\x1bOH", "\x1b\x1b", "\x1b[0000", "00000000", "1;5", ";", "5", "~", "A", "Z",
	"a", "O", "[", "\r", "\n", "\t", "\x08", "\x7f", "\x00", "\x1f", "?", "@", "/", "\xc3", "\xa9", "\xe2", "\x82", "\xac", "\xf0", "\x9f", "\x98", "\x80", "\xed\xa0", "\xff", "\u20AC", "\U0001F600",
}

// drawn returns bytes that consist of up to n pieces.
func (l *lot) drawn(n int) []byte {
	var b []byte
	for range l.draw(n + 1) {
		if l.draw(9) == 0 {
			b = append(b, byte(l.draw(256)))
		} else {
			b = append(b, pieces[l.draw(len(pieces))]...)
		}
	}
	return b
}

// cut returns bytes in parts, some of them empty.
func (l *lot) cut(b []byte) [][]byte {
	var parts [][]byte
	for len(b) > 0 {
		n := l.draw(min(len(b), 6) + 1)
		parts, b = append(parts, b[:n]), b[n:]
	}
	return parts
}

func TestDrawnTexts(t *testing.T) {
	l := lot(20)
	for range 20000 {
		b := l.drawn(12)
		holdWords(t, b)
		holdWords(t, l.cut(b)...)
	}
	for range 100 {
		b := l.drawn(2000)
		holdWords(t, b)
		holdWords(t, l.cut(b)...)
	}
}

// A decoder that is fed and flushed many times.
func TestDrawnSteps(t *testing.T) {
	l := lot(3)
	for range 300 {
		d := New()
		var waiting []byte
		for range 60 {
			if l.draw(4) == 0 {
				if l, want := d.Flush(), wordsFlush(waiting); !slices.Equal(l, want) {
					t.Errorf("Flush of %q: %v, want %v", waiting, l, want)
				}
				waiting = nil
			} else {
				b := l.drawn(3)
				want, rest := wordsKeys(slices.Concat(waiting, b))
				if l := d.Feed(b); !slices.Equal(l, want) {
					t.Errorf("Feed(%q) behind %q: %v, want %v", b, waiting, l, want)
				}
				waiting = rest
			}
			if n := d.Waiting(); n != len(waiting) || n > 14 {
				t.Errorf("Waiting: %d, want %d", n, len(waiting))
			}
		}
	}
}
