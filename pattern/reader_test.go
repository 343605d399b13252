package pattern

import (
	"math"
	"strings"
	"testing"

	"stylus/api"
)

// What a reader waits for.
type wait int

const (
	piece   wait = iota // a piece, or the end of a branch
	repeat              // as piece, or a repeat
	lazier              // as piece, or the ? of a repeat
	escape              // what follows a \
	least               // the digit that follows {
	comma               // , or }
	most                // a digit that is not less, or }
	brace               // }
	negate              // an item, or ^
	item                // an item
	dash                // an item, the end of a set, or -
	closing             // an item, or the end of a set
	escaped             // what follows the \ of an item
	second              // the second one of two runes with - between them
	other               // what follows the \ of a second one
)

// reader tells where a text stops being a pattern. It knows no nodes, keeps
// nothing of the groups but their number, and reads one rune after the other.
type reader struct {
	wait        wait
	open, given int // how many groups are open, and have numbers
	digit       rune
	first       rune
}

// told follows the chapter from the first rune on.
func told(s []rune) (groups, at int, e api.Errno) {
	if len(s) > api.MaxPat {
		return 0, 0, api.ErrFull
	}
	var r reader
	for i := 0; i < len(s); i++ {
		begins := r.mayEnd() && s[i] == '('
		plain := i+2 < len(s) && s[i+1] == '?' && s[i+2] == ':'
		switch {
		case begins && r.open == 8:
			return 0, i, api.ErrDeep
		case begins && plain:
			r.open++
			r.wait = piece
			i += 2
		case begins && r.given == 9:
			return 0, i, api.ErrFull
		case begins:
			r.open++
			r.given++
			r.wait = piece
		default:
			if right, back := r.read(s[i]); !right {
				return 0, i - back, api.ErrForm
			}
		}
	}
	if r.open > 0 || !r.mayEnd() {
		return 0, len(s), api.ErrForm
	}
	return r.given, 0, api.OK
}

// mayEnd reports whether a branch may end here.
func (r *reader) mayEnd() bool {
	return r.wait == piece || r.wait == repeat || r.wait == lazier
}

// read reports whether the text can continue with c, and, if not, how many
// runes ahead of c the place of the fault is.
func (r *reader) read(c rune) (right bool, back int) {
	if c < 0 {
		return false, 0
	}
	switch r.wait {
	case piece:
		return r.readPiece(c), 0
	case repeat:
		return r.readRepeat(c), 0
	case lazier:
		if c == '?' {
			r.wait = piece
			return true, 0
		}
		return r.readPiece(c), 0
	case escape:
		r.wait = repeat
		return strings.ContainsRune("dwsDWSnt", c) || !isLetterOrDigit(c), 0
	case least, comma, most, brace:
		return r.readBraces(c), 0
	}
	return r.readSet(c)
}

func isLetterOrDigit(c rune) bool {
	return strings.ContainsRune(lettersAndDigits, c)
}

func (r *reader) readPiece(c rune) bool {
	switch c {
	case ')':
		r.open--
		r.wait = repeat
		return r.open >= 0
	case '[':
		r.wait = negate
	case '\\':
		r.wait = escape
	case '^', '$', '|':
		r.wait = piece
	case ']', '{', '}', '*', '+', '?':
		return false
	default:
		r.wait = repeat
	}
	return true
}

func (r *reader) readRepeat(c rune) bool {
	switch c {
	case '*', '+', '?':
		r.wait = lazier
	case '{':
		r.wait = least
	default:
		return r.readPiece(c)
	}
	return true
}

func (r *reader) readBraces(c rune) bool {
	digit := '0' <= c && c <= '9'
	switch {
	case r.wait == least && digit:
		r.digit = c
		r.wait = comma
	case r.wait == comma && c == ',':
		r.wait = most
	case r.wait == most && digit && c >= r.digit:
		r.wait = brace
	case r.wait != least && c == '}':
		r.wait = lazier
	default:
		return false
	}
	return true
}

func (r *reader) readSet(c rune) (right bool, back int) {
	switch r.wait {
	case escaped, other:
		return r.readEscaped(c)
	case second:
		if c == '\\' {
			r.wait = other
			return true, 0
		}
		r.wait = closing
		return !strings.ContainsRune("]-^", c) && r.first <= c, 0
	}
	switch {
	case c == '^' && r.wait == negate:
		r.wait = item
	case c == ']' && (r.wait == dash || r.wait == closing):
		r.wait = repeat
	case c == '-' && r.wait == dash:
		r.wait = second
	case c == '\\':
		r.wait = escaped
	case strings.ContainsRune("]-^", c):
		return false, 0
	default:
		r.first = c
		r.wait = dash
	}
	return true, 0
}

func (r *reader) readEscaped(c rune) (right bool, back int) {
	if r.wait == escaped && strings.ContainsRune("dws", c) {
		r.wait = closing
		return true, 0
	}
	switch {
	case c == 'n':
		c = '\n'
	case c == 't':
		c = '\t'
	case isLetterOrDigit(c):
		return false, 0
	}
	if r.wait == other {
		r.wait = closing
		// The second one begins with its \.
		return r.first <= c, 1
	}
	r.first = c
	r.wait = dash
	return true, 0
}

// holdTold holds what Parse returns for a text against the reader, and the
// numbers of the groups against their order.
func holdTold(t *testing.T, s []rune) {
	t.Helper()
	groups, at, e := told(s)
	x, n, a, errno := Parse(s)
	if n != groups || a != at || errno != e {
		t.Fatalf("Parse(%q %d): %d, %d, %d, want %d, %d, %d", string(s), s, n, a, errno, groups, at, e)
	}
	if e != api.OK {
		if !same(x, Node{}) {
			t.Fatalf("Parse(%q): %v beside an error", string(s), x)
		}
		return
	}
	if x.Kind != Cat && x.Kind != Alt {
		t.Fatalf("Parse(%q): kind %d", string(s), x.Kind)
	}
	last := 0
	for _, b := range groupsOf(x, 0) {
		if b.n != 0 && b.n != last+1 || b.depth >= api.MaxDeep {
			t.Fatalf("Parse(%q): group %d behind %d in %d others", string(s), b.n, last, b.depth)
		}
		last = max(last, b.n)
	}
	if last != groups {
		t.Fatalf("Parse(%q): %d groups, and %d numbers", string(s), groups, last)
	}
}

// texts calls f for all texts of at most so many of these runes.
func texts(runes []rune, longest int, f func(s []rune)) {
	var grow func(s []rune)
	grow = func(s []rune) {
		f(s)
		if len(s) == longest {
			return
		}
		for _, r := range runes {
			grow(append(s, r))
		}
	}
	grow(make([]rune, 0, longest))
}

// P5.1, P5.2

func TestAllShortTexts(t *testing.T) {
	for _, c := range []struct {
		runes   string
		longest int
	}{
		{"(?:)|a", 7},
		{"(?:)*[]", 6},
		{"a*+?{", 7},
		{"a{},059?", 6},
		{"^$*(|)a", 6},
		{"[]^-ab", 7},
		{"[]\\-ad", 7},
		{"[]\\nt~D", 6},
		{"\\dWntq*", 5},
		{"[\\(])", 7},
	} {
		texts([]rune(c.runes), c.longest, func(s []rune) { holdTold(t, s) })
	}
}

func TestAllShortTextsOfAllRunes(t *testing.T) {
	runes := append([]rune("()[]{}*+?|\\.^$-,:019adwsnztDWS_~ é"), -1, '\n', '\t', 55296, 1114112, math.MaxInt32, math.MinInt32)
	texts(runes, 3, func(s []rune) { holdTold(t, s) })
}

// Short texts inside of others, where depth, groups or what came before count.
func TestAllShortTextsBehindOthers(t *testing.T) {
	for _, ahead := range []string{"a", "^", "a*", "a*?", "(a)", "[", "[^", "[a", "[b-", "[\\d", "[a-b", "[\\", "[b-\\", "[]", "a{", "a{1", "a{1,", "a{1,2", "\\", "(", "(?", "(?:", "(((((((", "((((((((", "(?:(?:((((((", "()()()()()()()()", "()()()()()()()()()", "()()((((((((", "()(((((((("} {
		texts([]rune("()[]{}*?|\\-^:,a2d"), 3, func(s []rune) { holdTold(t, append([]rune(ahead), s...)) })
	}
}

// steps answers the same numbers, from 0 up to below n, one after the other.
type steps uint64

func (s *steps) next(n int) int {
	*s = *s*6364136223846793005 + 1442695040888963407
	return int(uint64(*s)>>33) % n
}

// Long texts of parts that are mostly right.
func TestLongTexts(t *testing.T) {
	parts := strings.Split("a b . \\d \\W \\. \\n ( ( (?: ) ) ) | * + ? *? {2} {1,} {0,3} {4,9}? [a] [^\\]] [a-z\\d] [\\--~] ^ $ ( ) (a) (?:b) {2,1} [] \\q (?", " ")
	choose := steps(1)
	right := 0
	for range 200000 {
		var s strings.Builder
		for range choose.next(26) {
			// The last three are seldom right.
			s.WriteString(parts[choose.next(len(parts)-4*min(1, choose.next(20)))])
		}
		holdTold(t, []rune(s.String()))
		if _, _, e := told([]rune(s.String())); e == api.OK && s.Len() > 20 {
			right++
		}
	}
	if right < 100 {
		t.Errorf("only %d long patterns", right)
	}
}
