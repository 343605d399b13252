package expand

import (
	"fmt"
	"math"
	"slices"
	"strings"
	"testing"

	"stylus/api"
	"stylus/snippet"
)

// P10.1

// named returns a value of so many runes.
func named(name string, n int) []Value {
	return pairs(name, strings.Repeat("x", n))
}

// holdLength holds that a snippet has an expansion of so many runes, or, if
// these are too many, none.
func holdLength(t *testing.T, s string, values []Value, want int) {
	t.Helper()
	if want > 2000 {
		holdError(t, s, values, api.ErrFull)
		return
	}
	l := parsed(t, s)
	text, f, e := Lay(l, values)
	if e != api.OK || len(text) != want {
		t.Errorf("Lay(%q): %d runes, %d, want %d", s, len(text), e, want)
	}
	holdLaws(t, l, text, f)
}

func TestLengths(t *testing.T) {
	for n := 1990; n <= 2010; n++ {
		x := named("X", n)
		holdLength(t, "$X", x, n)
		holdLength(t, "${Y:$X}", x, n)
		holdLength(t, "${1:$X}", x, n)
		holdLength(t, "${1:${2:$X}}", x, n)
		holdLength(t, "abc$X", x, n+3)
		holdLength(t, "${X}abc", x, n+3)
		holdLength(t, "a${X}$1${1:b}", x, n+3)
		holdLength(t, "${1:a$X}$2", x, n+1)
		holdLength(t, "${2/$/a/}$X${2|bc,d|}", x, n+5)
		for _, part := range []string{"b", "${1|b,cd|}", "${1:b}", "${Y:b}", "$C", "${1:$C}", "${C/c/b/}", "$1${1/^/b/}"} {
			holdLength(t, "${X}"+part, append(x, pairs("C", "c")...), n+1)
			holdLength(t, part+"$X", append(x, pairs("C", "c")...), n+1)
		}
	}
	for n := 999; n <= 1002; n++ {
		holdLength(t, "$X$X", named("X", n), 2*n)
		holdLength(t, "${1:$X}$1", named("X", n), 2*n)
		holdLength(t, "$1${1:$X}", named("X", n), 2*n)
		holdLength(t, "$1${2:$1}${1:$X}", named("X", n), 3*n)
		holdLength(t, "${1:$X}${1/x//}", named("X", n), 2*n-1)
		holdLength(t, "${1:$X}${1/x/xx/}", named("X", n), 2*n+1)
	}
	for n := 600; n <= 700; n++ {
		holdLength(t, "${1:$X}${1/x/<>/g}", named("X", n), 3*n)
		holdLength(t, "$1${1:$X}${1/x//g}$1", named("X", n), 3*n)
	}
}

// The text of a number, many times over.
func TestLengthsOfMirrors(t *testing.T) {
	for n := 1; n < 59; n++ {
		for _, of := range []int{1, 20, 39, 40, 41, 50, 99, 100, 101} {
			first := "${1:" + strings.Repeat("a", of) + "}"
			holdLength(t, first+strings.Repeat("$1", n), nil, of*(n+1))
			holdLength(t, strings.Repeat("$1", n)+first, nil, of*(n+1))
			holdLength(t, first+strings.Repeat("$1", n)+"b", nil, of*(n+1)+1)
			if n < 57 {
				holdLength(t, first+"${2:"+strings.Repeat("$1", n)+"}", nil, of*(n+1))
				holdLength(t, first+"${2:"+strings.Repeat("$1", n)+"}$2", nil, of*(2*n+1))
			}
		}
	}
}

// A transform cuts its result off, so that a value may be much longer than an
// expansion.
func TestLongValues(t *testing.T) {
	for _, n := range []int{1999, 2000, 2001, 2002, 5000, 100000} {
		x := named("X", n)
		holdLength(t, "$X", x, n)
		holdLength(t, "${X/a/b/}", x, min(n, 2000))
		holdLength(t, "${X/a/b/g}$1", x, min(n, 2000))
		holdLength(t, "${1:${X/a/b/}}", x, min(n, 2000))
		holdLength(t, "${X/a/b/}c", x, min(n, 2000)+1)
		holdLength(t, "${1:${X/a/b/}}c", x, min(n, 2000)+1)
		holdText(t, "${X/^.*$/a/}b", x, "ab")
		holdText(t, "${X/x//g}", x, "")
		holdText(t, "a${E}b${X/.*/$1/}", append(pairs("E", ""), x...), "ab")
		// Not needed.
		holdText(t, "ab$Y", x, "ab")
		holdText(t, "${1:a}${1:$X}", x, "aa")
		holdText(t, "${E:$X}", append(pairs("E", ""), x...), "")
		// The whole value is transformed.
		y := pairs("X", strings.Repeat("x", n)+"y")
		holdText(t, "${X/x+(.)$/$1/}", y, "y")
		holdText(t, "${1:${X/x*/-/}}${1/y/z/}", y, "-y-z")
	}
	holdText(t, "${2:${1/^/a/}}${1:$X}", named("X", 999), "a"+strings.Repeat("x", 1998))
	// The result of a transform would be too long, even where it is cut off.
	holdError(t, "${1:$X}${1/x/xx/g}", named("X", 1001), api.ErrFull)
	holdError(t, "${1:$X}${1/x/xxxx/g}", named("X", 1999), api.ErrFull)
	holdLength(t, "${1:$X}${1/x/xxx/g}", named("X", 500), 2000)
	holdLength(t, "${1:x}${1/x/${1:-"+strings.Repeat("x", 350)+"}/}", nil, 351)
}

func TestNumberOfFields(t *testing.T) {
	for n := 55; n <= 65; n++ {
		for _, part := range []string{"$1", "${1}", "$17", "${1:}"} {
			holdFields(t, strings.Repeat(part, n), nil, n+1)
			holdFields(t, strings.Repeat(part, n)+"$0", nil, n+1)
			holdFields(t, "$0"+strings.Repeat(part, n), nil, n+1)
			holdFields(t, "${Y:"+strings.Repeat(part, n)+"}$2", nil, n+2)
			holdFields(t, "${3:"+strings.Repeat(part, n)+"}", nil, n+2)
			holdFields(t, "${3:$0"+strings.Repeat(part, n)+"}", nil, n+2)
			holdFields(t, "${1/^/a/}${2|b|}${0:c}"+strings.Repeat(part, n), nil, n+3)
			// Not visited.
			holdFields(t, "${E:"+strings.Repeat(part, n)+"}", pairs("E", ""), 1)
			holdFields(t, "${E:$0"+strings.Repeat(part, n)+"}", pairs("E", ""), 1)
			holdFields(t, "${3|a|}${3:"+strings.Repeat(part, n)+"}$0", nil, 3)
			holdFields(t, "${3:a}${3:"+strings.Repeat(part, n)+"}", nil, 3)
			if len(part) < 4 {
				holdFields(t, "${3:a}${3:"+strings.Repeat(part, n)+"}"+strings.Repeat("$4", 57), nil, 60)
				holdFields(t, "${3:a}${3:"+strings.Repeat(part, n)+"}"+strings.Repeat("$4", 58), nil, 61)
			}
		}
		holdFields(t, strings.Repeat("$0", n), nil, n)
		holdFields(t, strings.Repeat("${1||}", n), nil, n+1)
		holdFields(t, strings.Repeat("${0||}", n), nil, n)
		holdFields(t, strings.Repeat("$0", 60)+"${Y:"+strings.Repeat("a", n)+"}", nil, 60)
	}
	var s strings.Builder
	for n := 1; n <= 99; n++ {
		fmt.Fprintf(&s, "$%d", n)
		holdFields(t, s.String(), nil, n+1)
		holdFields(t, "$0"+s.String(), nil, n+1)
	}
	holdFields(t, strings.Repeat("$1", 200), nil, 201)
}

// holdFields holds that a snippet has so many fields, or, if these are too
// many, none.
func holdFields(t *testing.T, s string, values []Value, want int) {
	t.Helper()
	if want > 60 {
		holdError(t, s, values, api.ErrFull)
		return
	}
	l := parsed(t, s)
	text, f, e := Lay(l, values)
	if e != api.OK || len(f) != want {
		t.Errorf("Lay(%q): %d fields, %d, want %d", s, len(f), e, want)
	}
	holdLaws(t, l, text, f)
}

// circular has snippets that are circular, where X is set and Y is not.
func circular() []string {
	l := []string{
		// At once.
		"${1:$1}", "${1:a$1}", "${1:a$1b}", "${0:$0}", "${99:${99}}", "${1:$01}", "${01:$1}",
		"$1${1:$1}", "${1:$1}$1", "${1:$1}${1:a}", "${1:}${1:$1}",
		// By way of other parts with Subs.
		"${1:${1:a}}", "${1:${1:$1}}", "${1:${1|a|}}", "${1:${1|a,b|}c}", "${1:${1||}}",
		"${1:${2:$1}}", "${1:${2:${1:a}}}", "${1:${2:${1|a|}}}", "${1:${2:a${3:b${4:c$1}}}}",
		"${1:${2:${3:${4:${5:${6:${7:$1}}}}}}}", "${1:${2:${3:${4:${5:${6:${7:$7}}}}}}}",
		// By way of a variable that is not set.
		"${1:${Y:$1}}", "${1:${Y:a${Y:b$1}}}", "${Y:${1:$1}}", "${Y:${1:${Y:${1:a}}}}", "${1:${X:$1}${Y:$1}}",
		// By way of a transform.
		"${1:${1/a/b/}}", "${1:${1/.*//}}", "${1:a${1/^/b/}}", "${1:${2/a/b/}}${2:$1}", "${1:$2}${2:${1/a//g}}", "${1/a/b/}${1:$1}",
		// By way of two and more numbers.
		"${1:$2}${2:$1}", "${2:$1}${1:$2}", "${1:$2}${2:$3}${3:$1}", "${3:$1}${2:$3}${1:$2}", "${2:$3}${1:$2}${3:$1}",
		"${1:a$2}${2:b${3:c}$1}", "${1:$2}${2:${3:$1}}", "${1:$2}${3:${2:$1}}", "${0:$1}${1:$0}",
		// By way of a number that is visited only later.
		"${1:$2$3}$2${3:a}${2:b$1}", "$1$2${1:$2}$3${2:$3}${3|a|}${4:$5}${5:$4}", "${1:$2}${2:}${2/a/b/}$2${2:c$1}",
		// Beside numbers that are not.
		"${1:a}${2:$1}${3:$3}$1$2", "${3:$3}${1:a}${2:$1}", "${1:$2}${2:$2}", "${2:$2}${1:$2}", "${1:$2}${2:$3}${3:$3}${4:$1}",
		"${1:$2$2$2}${2:$1$1}", "$0${1:a$0$0}${2:$1$1$2}",
		// The second ones with Subs are not visited, but needed.
		"${1:${2:a}}${2:b}${3:${3:c}}", "${2:b$1}${1:${2:a}}",
	}
	// By way of many numbers.
	for _, n := range []int{5, 20, 36} {
		var s strings.Builder
		for i := 10; i < 10+n; i++ {
			fmt.Fprintf(&s, "${%d:$%d}", i, 10+(i-9)%n)
		}
		l = append(l, s.String())
	}
	return l
}

// straight has snippets that are not circular, where X is set and Y is not.
func straight() []string {
	return []string{
		"${1:a}${1:$1}", "${1:a}${1:$2}${2:$1}", "${2:${1:a}}${1:$2}", "${1|a|}${1:$1}", "${1|$1,a|}", "${1||}${1:$1}",
		"${1:${X:$1}}", "${1:${X:${1:a}}}", "${1:${2:${X:$1$2}}}", "${X:${1:$1}}", "${X:${1:$2}${2:$1}}",
		"${1:a}${2:${1:$1}}", "${1:a}${2:${1:$2}}", "${1|a|}${2:${1:$2}}", "${1:a}${2:b}${1:$2}${2:$1}", "${1:$2}${2:a}${2:$1}",
		"${1:$2}${2|$1|}", "${1:$2}${2|a|}${2:$1}", "${1/a/$1/}", "${1:a}${1/a/${1:/upcase}/}", "${1:$11}${11:$21}",
		"${1:$2$2}${2:$3$3}${3:$4$4}${4:$5}", "$1${2:$1}${1:$3}${3:a}", "${1:$2$3}${2:$3}${3:$4}${4:a}", `${1:\$1}`, "${1:$0}$0",
		"${1:a}${1:${1:${1:$1}}}", "${1:${Y:$2}}${2:${X:$1}}", "${1:$2}${1:$1}${2:a}${2:$1}",
	}
}

func TestCircular(t *testing.T) {
	x := pairs("X", "x", "A", strings.Repeat("x", 2001))
	for _, s := range circular() {
		holdError(t, s, x, api.ErrDeep)
		holdError(t, "a"+s+"b", x, api.ErrDeep)
		holdError(t, "${Y:"+s+"}", x, api.ErrDeep)
		holdError(t, "${80:"+s+"}", x, api.ErrDeep)
		// Not visited.
		holdText(t, "${X:"+s+"}", x, "x")
		if len(s) < 380 {
			holdText(t, "${80:a}${80:"+s+"}", x, "aa")
			holdText(t, "${80|a|}${80:"+s+"}", x, "aa")
		}
		if len(s) > 200 {
			continue
		}
		// Too long as well, or too many fields.
		holdError(t, s+"$A", x, api.ErrDeep)
		holdError(t, "$A"+s, x, api.ErrDeep)
		holdError(t, "${70:$A}"+s+"$70", x, api.ErrDeep)
		holdError(t, s+strings.Repeat("$0", 61), x, api.ErrDeep)
		holdError(t, strings.Repeat("$0", 61)+s, x, api.ErrDeep)
		holdError(t, strings.Repeat("$0", 61)+s+"$A", x, api.ErrDeep)
	}
}

func TestNotCircular(t *testing.T) {
	x := pairs("X", "x", "A", strings.Repeat("x", 2001))
	for _, s := range straight() {
		l := parsed(t, s)
		text, f, e := Lay(l, x)
		if e != api.OK {
			t.Errorf("Lay(%q): %d", s, e)
		}
		holdLaws(t, l, text, f)
		holdError(t, s+"$A", x, api.ErrFull)
		holdError(t, "$A"+s, x, api.ErrFull)
		holdError(t, s+strings.Repeat("$0", 61), x, api.ErrFull)
		holdError(t, s+strings.Repeat("$70", 60), x, api.ErrFull)
		for _, c := range circular() {
			// Numbers of their own.
			if len(c) < 40 && !strings.ContainsAny(c, "0289") {
				c = strings.NewReplacer("${1", "${81", "$1", "$81", "${3", "${83", "$3", "$83", "${4", "${84", "$4", "$84").Replace(c)
				holdError(t, s+c, x, api.ErrDeep)
				holdError(t, c+s, x, api.ErrDeep)
			}
		}
	}
}

// Numbers whose texts double from one to the next.
func TestDoubling(t *testing.T) {
	long := named("X", 100000)
	for n := 2; n <= 29; n++ {
		var s strings.Builder
		for i := range n {
			fmt.Fprintf(&s, "${%d:$%d$%d}", 10+i, 11+i, 11+i)
		}
		last := 10 + n
		fields := 3*n + 2
		// The last text is there once, and 2, 4, 8 .. times in the ones before it.
		length := 1<<(n+1) - 1
		if fields > 60 {
			length = math.MaxInt
		}
		holdLength(t, s.String()+fmt.Sprintf("${%d:a}", last), nil, length)
		holdLength(t, s.String()+fmt.Sprintf("${%d|a,bc|}", last), nil, length)
		holdLength(t, s.String()+fmt.Sprintf("${%d:ab}", last), nil, 2*min(length, 5000))
		// Longer than any room, if all of it were written.
		holdError(t, s.String()+fmt.Sprintf("${%d:$X}", last), long, api.ErrFull)
		holdError(t, s.String()+fmt.Sprintf("${%d:$10}", last), nil, api.ErrDeep)
		holdError(t, s.String()+fmt.Sprintf("${%d:$%d}", last, last), nil, api.ErrDeep)
		holdError(t, s.String()+fmt.Sprintf("${%d:$%d}", last, last-1), nil, api.ErrDeep)
		if fields > 60 {
			holdError(t, s.String()+fmt.Sprintf("$%d", last), nil, api.ErrFull)
			continue
		}
		// What is empty stays empty.
		holdLength(t, s.String()+fmt.Sprintf("$%d", last), nil, 0)
		holdLength(t, s.String()+fmt.Sprintf("${%d:$Y}", last), nil, 0)
		holdLength(t, s.String()+fmt.Sprintf("${%d||}", last), nil, 0)
	}
	// More of them, with transforms and side by side.
	holdError(t, "${1:$2$2$2$2$2$2$2$2}${2:$3$3$3$3$3$3$3$3}${3:$4$4$4$4$4$4$4$4}${4:$5$5$5$5$5$5$5$5}${5:$6$6$6$6$6$6$6$6}${6:a}", nil, api.ErrFull)
	holdError(t, "${1:$2${2/a/b/g}}${2:$3${3/a/bab/g}}${3:$4${4/a/aaaaaaaaaaaaaaaaa/g}}${4:$5${5/a/aaaaaaaaaaaaaaaaaaaaa/g}}${5:$6${6/a/aaaaaaaaaaaaaaaaaa/g}}${6:a}", nil, api.ErrFull)
	holdLength(t, "${1:$2$2$2$2$2$2$2$2}${2:$3$3$3$3$3$3$3$3}${3:$4$4$4$4$4$4$4$4}${4:$5$5$5$5$5$5$5$5}${5:$6$6$6$6$6$6$6$6}${6:$7}", nil, 0)
	holdText(t, "${1:$2$2$2$2$2$2$2$2}${2:$3$3$3$3$3$3$3$3}${3:a}", nil, strings.Repeat("a", 64+8+1))
}

// Runes of all kinds come through as they are.
func TestOddRunes(t *testing.T) {
	odd := []rune{-1, 0, math.MinInt32, math.MaxInt32, 55296, 57343, 65533, 65534, 1114111, 1114112, '$', '}', '\\', '/', '|', ',', '1', 10, 27}
	for _, r := range odd {
		for _, n := range []int{0, 1, 2, 2000, 2001} {
			values := []Value{{[]rune("Xx"), []rune("no")}, {[]rune("X"), slices.Repeat([]rune{r}, n)}}
			for _, s := range []string{"$X", "${X:q}", "${Y:$X}", "${X/^$q//}"} {
				l := parsed(t, s)
				if n > 2000 && s != "${X/^$q//}" {
					holdError(t, s, values, api.ErrFull)
					continue
				}
				m := min(n, 2000)
				hold(t, l, values, slices.Repeat([]rune{r}, m), fmt.Sprintf("0* %d-%d", m, m))
			}
			if n == 2 {
				hold(t, parsed(t, "${1:$X}$1"), values, []rune{r, r, r, r}, "1* 0-2, 1 2-4, 0* 4-4")
			}
		}
		// Names are compared rune by rune.
		if r != 'X' {
			hold(t, parsed(t, "${X:q}"), []Value{{[]rune{r}, []rune("no")}, {[]rune{r, 'X'}, []rune("no")}, {[]rune{'X', r}, []rune("no")}, {[]rune{'X' + 1<<16}, []rune("no")}}, []rune("q"), "0* 1-1")
		}
		if r < 0 {
			continue
		}
		s := slices.Concat([]rune(`${1:\`), []rune{r}, []rune("}$1"))
		if l, _, e := snippet.Parse(s); e == api.OK {
			hold(t, l, nil, []rune{r, r}, "1* 0-1, 1 1-2, 0* 2-2")
		} else {
			t.Errorf("Parse(%q): %d", string(s), e)
		}
	}
}

func TestNames(t *testing.T) {
	values := pairs("", "none", "ab", "2", "a", "1", "abc", "3", "A", "4", "_", "5", "a1", "6", "a", "7", "", "8")
	holdSamples(t, values,
		sample{"$a", "1", "0* 1-1"},
		sample{"$ab", "2", "0* 1-1"},
		sample{"$abc", "3", "0* 1-1"},
		sample{"$A", "4", "0* 1-1"},
		sample{"$_", "5", "0* 1-1"},
		sample{"$a1", "6", "0* 1-1"},
		sample{"${b:q}${c:q}${abcd:q}${aa:q}${a2:q}${B:q}${__:q}", "qqqqqqq", "0* 7-7"},
	)
	long := strings.Repeat("n", 390)
	holdText(t, "${"+long+":q}", pairs(long+"n", "no", long[1:], "no"), "q")
	holdText(t, "${"+long+":q}", pairs(long+"n", "no", long, "yes"), "yes")
}
