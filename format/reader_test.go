package format

import (
	"math"
	"slices"
	"strings"
	"testing"

	"stylus/api"
)

// What a reader waits for.
const (
	outside   = iota // an item
	backslash        // what follows a \ outside of items
	dollar           // what follows a $
	second           // a second digit without braces, or an item
	brace            // what follows ${
	one              // a second digit, or what follows the number in braces
	two              // what follows the second digit in braces
	colon            // what follows the :
	slash            // a word
	word             // the rest of a word, with its }
	inside           // a rune of a text, or its end
	escaped          // what follows a \ in a text
)

// reader reads a format rune by rune, without looking ahead or going back: it
// only knows what it waits for.
type reader struct {
	wait int
	l    []Item
	x    Item   // the item that has begun
	rest string // of its word
	no   bool   // whether its text is No
}

// told returns what Parse returns.
func told(s []rune) ([]Item, int, api.Errno) {
	if len(s) > 400 {
		return nil, 0, api.ErrFull
	}
	var r reader
	for i, c := range s {
		// The place is that of the first digit.
		if (r.wait == second || r.wait == one) && r.x.N > 0 && isDecimal(c) {
			return nil, i - 1, api.ErrForm
		}
		if c < 0 || !r.read(c) {
			return nil, i, api.ErrForm
		}
	}
	if r.wait != outside && r.wait != second {
		return nil, len(s), api.ErrForm
	}
	return r.l, 0, api.OK
}

func isDecimal(c rune) bool {
	return strings.ContainsRune("0123456789", c)
}

// read reports whether the text can continue with c.
func (r *reader) read(c rune) bool {
	switch r.wait {
	case outside:
		r.readOutside(c)
	case backslash:
		r.wait = outside
		r.putOutside(escapedRune(c))
	case inside:
		r.readText(c)
	case escaped:
		r.wait = inside
		r.put(escapedRune(c))
	case colon:
		r.readForm(c)
	case slash:
		return r.readWord(c)
	case word:
		right := rune(r.rest[0]) == c
		r.rest = r.rest[1:]
		if r.rest == "" {
			r.end()
		}
		return right
	default:
		return r.readGroup(c)
	}
	return true
}

func (r *reader) readOutside(c rune) {
	switch c {
	case '$':
		r.wait = dollar
	case '\\':
		r.wait = backslash
	default:
		r.putOutside(c)
	}
}

func (r *reader) putOutside(c rune) {
	if len(r.l) == 0 || r.l[len(r.l)-1].Kind != 1 {
		r.l = append(r.l, Item{Kind: 1})
	}
	x := &r.l[len(r.l)-1]
	x.Yes = append(x.Yes, c)
}

func (r *reader) put(c rune) {
	if r.no {
		r.x.No = append(r.x.No, c)
	} else {
		r.x.Yes = append(r.x.Yes, c)
	}
}

// end ends the item that has begun.
func (r *reader) end() {
	r.l = append(r.l, r.x)
	r.x, r.no, r.wait = Item{}, false, outside
}

func (r *reader) readGroup(c rune) bool {
	digit := int(c - '0')
	switch {
	case r.wait == dollar && c == '{':
		r.wait = brace
	case r.wait == dollar && isDecimal(c):
		r.x = Item{Kind: 2, N: digit}
		r.l = append(r.l, r.x)
		r.wait = second
	case r.wait == second && isDecimal(c):
		r.l[len(r.l)-1].N = digit
		r.wait = outside
	case r.wait == second:
		r.wait = outside
		r.readOutside(c)
	case r.wait == brace && isDecimal(c):
		r.x = Item{N: digit}
		r.wait = one
	case r.wait == one && isDecimal(c):
		r.x.N = digit
		r.wait = two
	case (r.wait == one || r.wait == two) && c == ':':
		r.wait = colon
	case (r.wait == one || r.wait == two) && c == '}':
		r.x.Kind = 2
		r.end()
	default:
		return false
	}
	return true
}

func (r *reader) readForm(c rune) {
	r.wait = inside
	switch c {
	case '/':
		r.wait = slash
	case '+':
		r.x.Kind = 6
	case '?':
		r.x.Kind = 7
	case '-':
		r.x.Kind, r.no = 8, true
	default:
		r.x.Kind, r.no = 8, true
		r.readText(c)
	}
}

func (r *reader) readWord(c rune) bool {
	r.wait = word
	switch c {
	case 'u':
		r.x.Kind, r.rest = 3, "pcase}"
	case 'd':
		r.x.Kind, r.rest = 4, "owncase}"
	case 'c':
		r.x.Kind, r.rest = 5, "apitalize}"
	default:
		return false
	}
	return true
}

func (r *reader) readText(c rune) {
	first := r.x.Kind == 7 && !r.no
	switch {
	case c == '\\':
		r.wait = escaped
	case first && c == ':':
		r.no = true
	case !first && c == '}':
		r.end()
	default:
		r.put(c)
	}
}

// holdTold holds what Parse returns for a text against the reader, and returns
// whether it is a format.
func holdTold(t *testing.T, s []rune) bool {
	t.Helper()
	want, at, e := told(s)
	l, a, errno := Parse(s)
	if !same(l, want) || a != at || errno != e {
		t.Fatalf("Parse(%q %d): %v, %d, %d, want %v, %d, %d", string(s), s, l, a, errno, want, at, e)
	}
	return e == api.OK
}

// texts calls f for all texts of at most so many of these runes.
func texts(runes []rune, longest int, f func(s []rune)) {
	var grow func(s []rune)
	grow = func(s []rune) {
		f(s)
		if len(s) == longest {
			return
		}
		for _, r := range runes {
			grow(append(s, r))
		}
	}
	grow(make([]rune, 0, longest))
}

// P7.1

func TestAllShortTexts(t *testing.T) {
	for _, c := range []struct {
		runes   string
		longest int
	}{
		{"${1:}", 8},
		{"${01}9", 7},
		{"$}\\n1a", 7},
		{"$012a", 7},
		{"${1:?}", 8},
		{"${1:+-/", 7},
	} {
		texts([]rune(c.runes), c.longest, func(s []rune) { holdTold(t, s) })
	}
}

func TestAllShortTextsOfAllRunes(t *testing.T) {
	runes := append([]rune("${}\\:/+?-0129nudcpaNUé ;"), -1, '\n', 47, 55296, 1114112, math.MaxInt32, math.MinInt32)
	texts(runes, 4, func(s []rune) { holdTold(t, s) })
}

// Short texts behind the beginnings of items.
func TestAllShortTextsBehindOthers(t *testing.T) {
	for _, ahead := range []string{
		"a", "\\", "$", "$1", "$0", "$01", "${", "${1", "${0", "${01", "${1:", "${01:", "${1:a", "${1:\\", "${1:-", "${1:-a", "${1:-\\", "${1:+", "${1:+a", "${1:+\\",
		"${1:?", "${1:?a", "${1:?\\", "${1:?a:", "${1:?a:b", "${1:?a:\\", "${1:?:", "${1:/", "${1:/u", "${1:/upcas", "${1:/upcase", "${1:/d", "${1:/downcase", "${1:/c", "${1:/capitaliz", "${1:/capitalize",
		"${1}", "${1:/upcase}", "${1:+a}", "${1:?a:b}", "${1:-a}", "${1:a}",
	} {
		runes := append([]rune("${}\\:/+?-019nudcape"), -1)
		texts(runes, 3, func(s []rune) { holdTold(t, append([]rune(ahead), s...)) })
		texts([]rune("}:\\$n1"), 5, func(s []rune) { holdTold(t, append([]rune(ahead), s...)) })
	}
}

// steps answers the same numbers, from 0 up to below n, one after the other.
type steps uint64

func (s *steps) next(n int) int {
	*s = *s*6364136223846793005 + 1442695040888963407
	return int(uint64(*s)>>33) % n
}

// Long texts of parts that are mostly right.
func TestLongTexts(t *testing.T) {
	parts := strings.Split("a b } } : \\n \\$ \\} \\: \\\\ $1 $02 $3 7 ${4} ${05} ${1: ${2:+ ${3:? ${4:- ${5:/upcase} ${6:/downcase} ${07:/capitalize} ${8:a} ${9:?a:b} é / + ? - upcase $ ${ \\ $10 ${12 ${1:/", " ")
	choose := steps(1)
	right := 0
	for range 300000 {
		var s strings.Builder
		for range choose.next(30) {
			// The last six are seldom right.
			s.WriteString(parts[choose.next(len(parts)-6*min(1, choose.next(50)))])
		}
		if holdTold(t, []rune(s.String())) && s.Len() > 30 {
			right++
		}
	}
	if right < 10000 {
		t.Errorf("only %d long formats", right)
	}
}

// spelled writes a rune, with a \ if it must or may have one.
func (s *steps) spelled(r rune, must string) []rune {
	switch {
	case r == '\n' && s.next(2) == 0:
		return []rune{'\\', 'n'}
	case strings.ContainsRune(must, r) || r != 'n' && s.next(3) == 0:
		return []rune{'\\', r}
	}
	return []rune{r}
}

func (s *steps) spelledText(l []rune, must string) []rune {
	var t []rune
	for _, r := range l {
		t = append(t, s.spelled(r, must)...)
	}
	return t
}

// drawn returns a text of a few runes.
func (s *steps) drawn() []rune {
	runes := []rune("ab${}\\:/+?-01nN\né")
	var t []rune
	for range s.next(6) {
		t = append(t, runes[s.next(len(runes))])
	}
	return t
}

// item returns an item, and one of the texts that stand for it.
func (s *steps) item() (Item, []rune) {
	x := Item{Kind: 1 + s.next(8), N: s.next(10)}
	ahead := []rune{'$', '{', '0', '0' + rune(x.N)}
	if s.next(2) == 0 {
		ahead = []rune{'$', '{', '0' + rune(x.N)}
	}
	switch x.Kind {
	case Text:
		x.N = 0
		x.Yes = append(s.drawn(), 'x')
		return x, s.spelledText(x.Yes, "$\\")
	case Plain:
		return x, append(ahead, '}')
	case Up:
		return x, append(ahead, []rune(":/upcase}")...)
	case Down:
		return x, append(ahead, []rune(":/downcase}")...)
	case Capital:
		return x, append(ahead, []rune(":/capitalize}")...)
	case If:
		x.Yes = s.drawn()
		return x, slices.Concat(ahead, []rune(":+"), s.spelledText(x.Yes, "}\\"), []rune("}"))
	case Both:
		x.Yes, x.No = s.drawn(), s.drawn()
		return x, slices.Concat(ahead, []rune(":?"), s.spelledText(x.Yes, ":\\"), []rune(":"), s.spelledText(x.No, "}\\"), []rune("}"))
	}
	x.No = s.drawn()
	if s.next(2) == 0 {
		return x, slices.Concat(ahead, []rune(":-"), s.spelledText(x.No, "}\\"), []rune("}"))
	}
	first := s.spelledText(x.No[:min(1, len(x.No))], "/+?-}\\")
	return x, slices.Concat(ahead, []rune(":"), first, s.spelledText(x.No[min(1, len(x.No)):], "}\\"), []rune("}"))
}

// Items in one of their spellings are parsed to themselves.
func TestDrawnItems(t *testing.T) {
	choose := steps(2)
	for range 100000 {
		var want []Item
		var s []rune
		for range choose.next(6) {
			x, more := choose.item()
			if x.Kind == Text && len(want) > 0 && want[len(want)-1].Kind == Text {
				continue
			}
			want = append(want, x)
			s = append(s, more...)
		}
		holdRunes(t, s, want...)
	}
}
