package snippet

import (
	"math"
	"slices"
	"strings"
	"testing"

	"stylus/api"
	"stylus/transform"
)

// What a reader waits for.
const (
	outside       = iota // a part
	backslash            // what follows a \ outside of parts, or in their Subs
	dollar               // what follows a $
	bareNumber           // a second digit without braces, or a part
	bareName             // more of a name without braces, or a part
	brace                // what follows ${
	number               // a second digit, or what follows the number in braces
	name                 // more of a name, or what follows it in braces
	subject              // what follows a number of two digits in braces
	option               // a rune of a choice, or its end
	optionSlash          // what follows a \ in a choice
	optionsEnd           // the } of the choices
	seek                 // a rune of a pattern, or its end
	seekSlash            // what follows a \ in a pattern
	put                  // a rune of a format, or its end
	putSlash             // what follows a \ in a format
	putDollar            // what follows a $ in a format
	inBraces             // what follows ${ in a format
	inBracesSlash        // what follows a \ there
	flags                // a letter, or the end of a transform
)

// level is a snippet that has begun, with its canonical text.
type level struct {
	l    []Node
	x    Node   // its part that has begun
	text []rune // the canonical text of l
	turn []rune // the canonical text of the transform of x
}

// reader reads a snippet rune by rune, without looking ahead or going back: it
// only knows what it waits for. It writes the canonical text while it reads.
type reader struct {
	wait   int
	levels []level
	slash  int // the place of the / of a transform
	at     int
}

// told returns what Parse returns, and the canonical text.
func told(s []rune) (l []Node, canonical []rune, at int, e api.Errno) {
	if len(s) > 400 {
		return nil, nil, 0, api.ErrFull
	}
	r := reader{levels: make([]level, 1)}
	for i, c := range s {
		r.at = i
		if c < 0 {
			return nil, nil, i, api.ErrForm
		}
		if at, e := r.read(c); e != api.OK {
			return nil, nil, at, e
		}
	}
	if r.wait == bareNumber || r.wait == bareName {
		r.end()
	}
	if r.wait != outside || len(r.levels) > 1 {
		return nil, nil, len(s), api.ErrForm
	}
	return r.levels[0].l, r.levels[0].text, 0, api.OK
}

func (r *reader) top() *level {
	return &r.levels[len(r.levels)-1]
}

func among(c rune, runes string) bool {
	return slices.Contains([]rune(runes), c)
}

func isOfName(c rune) bool {
	return among(c, "ABCDEFGHIJKLMNOPQRSTUVWXYZ_abcdefghijklmnopqrstuvwxyz")
}

func isOfNumber(c rune) bool {
	return among(c, "0123456789")
}

// read reads a rune, and returns an error with its place if the text cannot
// continue with it.
func (r *reader) read(c rune) (int, api.Errno) {
	switch {
	case r.wait <= bareName:
		return r.readBare(c)
	case r.wait <= subject:
		return r.readBraces(c)
	case r.wait <= optionsEnd:
		return r.readChoices(c)
	case r.wait <= inBracesSlash:
		r.readTransform(c)
		return 0, api.OK
	}
	return r.readFlag(c)
}

func (r *reader) readBare(c rune) (int, api.Errno) {
	t := r.top()
	switch {
	case r.wait == backslash:
		r.wait = outside
		r.putText(c)
	case r.wait == dollar && c == '{':
		r.wait = brace
	case r.wait == dollar && isOfNumber(c):
		r.wait = bareNumber
		t.x = Node{Kind: 2, N: int(c) - 48}
	case r.wait == dollar && isOfName(c):
		r.wait = bareName
		t.x = Node{Kind: 4, Name: []rune{c}}
	case r.wait == dollar:
		return r.at, api.ErrForm
	case r.wait == bareNumber && isOfNumber(c):
		t.x.N = 10*t.x.N + int(c) - 48
		r.end()
	case r.wait == bareName && (isOfNumber(c) || isOfName(c)):
		t.x.Name = append(t.x.Name, c)
	case r.wait != outside:
		r.end()
		return r.readBare(c)
	case c == '\\':
		r.wait = backslash
	case c == '$' && len(r.levels) > 9:
		return r.at, api.ErrDeep
	case c == '$':
		r.wait = dollar
	case c == '}' && len(r.levels) > 1:
		r.levels = r.levels[:len(r.levels)-1]
		r.top().x.Subs = t.l
		r.top().turn = t.text
		if len(t.text) > 0 {
			r.top().turn = append([]rune{':'}, t.text...)
		}
		r.end()
	default:
		r.putText(c)
	}
	return 0, api.OK
}

// putText adds a rune to the Text with which a level ends.
func (r *reader) putText(c rune) {
	t := r.top()
	if len(t.l) == 0 || t.l[len(t.l)-1].Kind != 1 {
		t.l = append(t.l, Node{Kind: 1})
	}
	x := &t.l[len(t.l)-1]
	x.Name = append(x.Name, c)
	if c == '\\' || c == '$' || c == '}' {
		t.text = append(t.text, '\\')
	}
	t.text = append(t.text, c)
}

// end ends the part that has begun.
func (r *reader) end() {
	t := r.top()
	t.l = append(t.l, t.x)
	subject := t.x.Name
	if t.x.Kind != 4 {
		subject = []rune{'0' + rune(t.x.N/10), '0' + rune(t.x.N%10)}
		if t.x.N < 10 {
			subject = subject[1:]
		}
	}
	t.text = slices.Concat(t.text, []rune("${"), subject, t.turn, []rune("}"))
	t.x, t.turn = Node{}, nil
	r.wait = outside
}

func (r *reader) readBraces(c rune) (int, api.Errno) {
	t := r.top()
	switch {
	case r.wait == brace && isOfNumber(c):
		r.wait = number
		t.x = Node{Kind: 2, N: int(c) - 48}
	case r.wait == brace && isOfName(c):
		r.wait = name
		t.x = Node{Kind: 4, Name: []rune{c}}
	case r.wait == brace:
		return r.at, api.ErrForm
	case r.wait == number && isOfNumber(c):
		r.wait = subject
		t.x.N = 10*t.x.N + int(c) - 48
	case r.wait == name && (isOfNumber(c) || isOfName(c)):
		t.x.Name = append(t.x.Name, c)
	case c == '}':
		r.end()
	case c == ':':
		r.wait = outside
		r.levels = append(r.levels, level{})
	case c == '/':
		r.wait = seek
		r.slash = r.at
		t.turn = []rune{'/'}
		t.x.Turn = true
	case c == '|' && r.wait != name:
		r.wait = option
		t.turn = []rune{'|'}
		t.x.Kind = 3
		t.x.Choices = [][]rune{nil}
	default:
		return r.at, api.ErrForm
	}
	return 0, api.OK
}

func (r *reader) readChoices(c rune) (int, api.Errno) {
	t := r.top()
	last := len(t.x.Choices) - 1
	switch {
	case r.wait == optionsEnd && c == '}':
		r.end()
		return 0, api.OK
	case r.wait == optionsEnd:
		return r.at, api.ErrForm
	case r.wait == option && c == '\\':
		r.wait = optionSlash
		return 0, api.OK
	case r.wait == option && c == ',':
		t.x.Choices = append(t.x.Choices, nil)
	case r.wait == option && c == '|':
		r.wait = optionsEnd
	default:
		r.wait = option
		t.x.Choices[last] = append(t.x.Choices[last], c)
		if c == ',' || c == '|' || c == '\\' {
			t.turn = append(t.turn, '\\')
		}
	}
	t.turn = append(t.turn, c)
	return 0, api.OK
}

// readTransform reads a rune of a pattern or of a format. Their canonical text
// is what was read.
func (r *reader) readTransform(c rune) {
	t := r.top()
	t.turn = append(t.turn, c)
	into := &t.x.T.Format
	if r.wait == seek || r.wait == seekSlash {
		into = &t.x.T.Pattern
	}
	if r.wait == seek && c == '/' {
		r.wait = put
		return
	}
	if (r.wait == put || r.wait == putDollar) && c == '/' {
		r.wait = flags
		return
	}
	if (r.wait == seekSlash || r.wait == putSlash) && c == '/' {
		*into = (*into)[:len(*into)-1]
	}
	*into = append(*into, c)
	switch {
	case r.wait == seek && c == '\\':
		r.wait = seekSlash
	case r.wait == seek || r.wait == seekSlash:
		r.wait = seek
	case r.wait == inBraces && c == '\\':
		r.wait = inBracesSlash
	case r.wait == inBracesSlash || r.wait == inBraces && c != '}':
		r.wait = inBraces
	case r.wait == putDollar && c == '{':
		r.wait = inBraces
	case (r.wait == put || r.wait == putDollar) && c == '$':
		r.wait = putDollar
	case (r.wait == put || r.wait == putDollar) && c == '\\':
		r.wait = putSlash
	default:
		r.wait = put
	}
}

func (r *reader) readFlag(c rune) (int, api.Errno) {
	x := &r.top().x.T
	switch {
	case c == 'g' && !x.All:
		x.All = true
	case c == 'i' && !x.Fold:
		x.Fold = true
	case c != '}':
		return r.at, api.ErrForm
	case transform.Check(*x) != api.OK:
		return r.slash, api.ErrForm
	default:
		t := r.top()
		if x.All {
			t.turn = append(t.turn, 'g')
		}
		if x.Fold {
			t.turn = append(t.turn, 'i')
		}
		r.end()
	}
	return 0, api.OK
}

// holdTold holds what Parse and Print return for a text against the reader, and
// returns whether it is a snippet.
func holdTold(t *testing.T, s []rune) bool {
	t.Helper()
	want, canonical, at, e := told(s)
	l, a, errno := Parse(s)
	if !same(l, want) || a != at || errno != e {
		t.Fatalf("Parse(%q %d): %v, %d, %d, want %v, %d, %d", string(s), s, l, a, errno, want, at, e)
	}
	if e == api.OK {
		holdPrint(t, l, canonical)
	}
	return e == api.OK
}

// texts calls f for all texts of at most so many of these runes.
func texts(runes []rune, longest int, f func(s []rune)) {
	var grow func(s []rune)
	grow = func(s []rune) {
		f(s)
		if len(s) == longest {
			return
		}
		for _, r := range runes {
			grow(append(s, r))
		}
	}
	grow(make([]rune, 0, longest))
}

// P9.1, P9.2, P9.3

func TestAllShortTexts(t *testing.T) {
	for _, c := range []struct {
		runes   string
		longest int
	}{
		{"${1:}", 8},
		{"${a:}\\", 7},
		{"${1|,}\\", 7},
		{"${1/}gi", 7},
		{"$}\\n1a", 7},
		{"$012a", 7},
		{"$_a1Z{}", 6},
	} {
		texts([]rune(c.runes), c.longest, func(s []rune) { holdTold(t, s) })
	}
}

func TestAllShortTextsOfAllRunes(t *testing.T) {
	runes := append([]rune("${}\\:/|,0129agizAGZ_é(;"), -1, 55296, 1114112, math.MaxInt32, math.MinInt32)
	texts(runes, 4, func(s []rune) { holdTold(t, s) })
}

// Short texts behind the beginnings of parts.
func TestAllShortTextsBehindOthers(t *testing.T) {
	deep := strings.Repeat("${1:", 8)
	for _, ahead := range []string{
		"a", "\\", "$", "$1", "$0", "$12", "$a", "$_1", "${", "${1", "${12", "${a", "${a1", "${1:", "${1:a", "${1:\\", "${a:", "${1:${2:", "${1:$2", "${1:}", "${1}", "${a:b}", deep, deep + "${2:", deep + "${2|", deep + "${2/",
		"${1|", "${1|a", "${1|\\", "${1|,", "${1|a,b", "${1|a|", "${1|a|}", "${1:${2|",
		"${1/", "${1/a", "${1/\\", "${1/\\/", "${1/(", "${1/a/", "${1/a/b", "${1/a/\\", "${1/a/\\/", "${1/a/$", "${1/a/${", "${1/a/${1:+", "${1/a/${1:+\\", "${1/a/${1:+b}", "${1/a/b/", "${1/a/b/g", "${1/a/b/i", "${1/a/b/gi", "${1/a/b/ig", "${1/(/b/", "${1/a/b/g}", "${a/", "${a/b/", "${a:${1/b/",
	} {
		runes := append([]rune("${}\\:/|,019agi_("), -1)
		texts(runes, 3, func(s []rune) { holdTold(t, append([]rune(ahead), s...)) })
		texts([]rune("}/\\$1"), 5, func(s []rune) { holdTold(t, append([]rune(ahead), s...)) })
		texts([]rune("/{$}\\"), 5, func(s []rune) { holdTold(t, append([]rune(ahead), s...)) })
		texts([]rune("|,\\}"), 5, func(s []rune) { holdTold(t, append([]rune(ahead), s...)) })
	}
}

// Formats whose braces are right, so that they are not turned down by Check.
func TestAllShortTextsInTransforms(t *testing.T) {
	for _, in := range [][2]string{{"${1/a/${1:+", "/}"}, {"${1/a/", "${1:-/}/}"}, {"${1/a/${1:-/}", "/gi}"}, {"${1/a/${1:-\\", "}/ig}"}, {"${1/", "/$1/}"}, {"${a/\\", "//}"}} {
		right := 0
		texts([]rune("a/\\${}1"), 5, func(s []rune) {
			if holdTold(t, slices.Concat([]rune(in[0]), s, []rune(in[1]))) {
				right++
			}
		})
		if right < 100 {
			t.Errorf("only %d snippets with %q", right, in)
		}
	}
}

// steps answers the same numbers, from 0 up to below n, one after the other.
type steps uint64

func (s *steps) next(n int) int {
	*s = *s*6364136223846793005 + 1442695040888963407
	return int(uint64(*s)>>33) % n
}

// Long texts of pieces that are mostly right.
func TestLongTexts(t *testing.T) {
	pieces := strings.Split("a b } } } \\n \\$ \\} \\\\ \\, \\| $1 $23 $abc_1 7 ${4} ${05} ${x1} ${1: ${2: ${ab: ${3:} ${6|a,b\\,|} ${7/a\\/(b)/${1:/upcase}\\/${1:+/\\/\\}}$1/gi} ${v/a/b/} é / | : , { $ ${ \\ ${12 ${3/(/b/} ${x| ${1|a| ${1/a/${/", " ")
	choose := steps(1)
	right := 0
	for range 100000 {
		var s strings.Builder
		for range choose.next(30) {
			// The last nine are seldom right.
			s.WriteString(pieces[choose.next(len(pieces)-9*min(1, choose.next(50)))])
		}
		s.WriteString(strings.Repeat("}", choose.next(8)))
		if holdTold(t, []rune(s.String())) && s.Len() > 30 {
			right++
		}
	}
	if right < 5000 {
		t.Errorf("only %d long snippets", right)
	}
}
