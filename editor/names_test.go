package editor

import (
	"fmt"
	"strings"
	"testing"

	"stylus/api"
)

// P24.1: New, Name and Value

func TestNew(t *testing.T) {
	for rows := -2; rows < 64; rows++ {
		for columns := -2; columns < 64; columns++ {
			want := api.OK
			if rows < 1 || rows > 60 || columns < 1 || columns > 60 {
				want = api.ErrArg
			}
			e, err := New(rows, columns)
			if err != want || (e != nil) != (want == api.OK) {
				t.Errorf("New(%d, %d): %v, %d", rows, columns, e, err)
			}
		}
	}
	e := started(t, 1, 1)
	s := e.See()
	if x, is := e.Open(); !sameSeen(s, Seen{Sels: []api.Sel{{}}}) || is || !sameSession(x, zero) {
		t.Errorf("%v, %v", s, x)
	}
	newPairOf(t, 60, 60).want("ab", "ab|")
	newPairOf(t, 1, 1).want("ab", "ab|")
	newPairOf(t, 1, 60).want("ab", "ab|")
	newPairOf(t, 60, 1).want("ab", "ab|")
}

func TestName(t *testing.T) {
	long := func(n int) string { return strings.Repeat("a", n) }
	e := started(t, 2, 8)
	for _, c := range []struct {
		name, text []rune
		want       api.Errno
	}{
		{[]rune("fn"), []rune("a$1"), api.OK},
		{[]rune("fn"), []rune("b$1"), api.OK}, // once more
		{[]rune("a"), nil, api.OK},
		{[]rune("中-é"), []rune("中"), api.OK},
		{[]rune(long(20)), nil, api.OK},
		{[]rune(long(21)), nil, api.ErrArg},
		{nil, nil, api.ErrArg},
		{[]rune{}, []rune("a"), api.ErrArg},
		{[]rune("a b"), nil, api.ErrArg},
		{[]rune("a\t"), nil, api.ErrArg},
		{[]rune("\na"), nil, api.ErrArg},
		{[]rune{'a', 0xD800}, nil, api.ErrArg},
		{[]rune{-1}, nil, api.ErrArg},
		{[]rune{0x110000}, nil, api.ErrArg},
		// The text
		{[]rune("x"), []rune{'a', -1}, api.ErrArg},
		{[]rune("x"), []rune{0xD800, 'a'}, api.ErrArg},
		{[]rune("x"), []rune{0xDFFF}, api.ErrArg},
		{[]rune("x"), []rune{0x110000}, api.ErrArg},
		{[]rune("x"), []rune{0x10FFFF, 0, 0xE000, 0xD7FF}, api.OK},
		{[]rune("x"), []rune("$"), api.ErrForm},
		{[]rune("x"), []rune("${1/(/a/}"), api.ErrForm},
		{[]rune("x"), []rune(long(401)), api.ErrFull},
		{[]rune("x"), []rune(long(400)), api.OK},
		{[]rune("x"), []rune(strings.Repeat("${1:", 9) + "$1" + strings.Repeat("}", 9)), api.ErrDeep},
		// What is named first
		{[]rune("x"), append([]rune(long(401)), -1), api.ErrArg},
		{[]rune("x"), []rune{'$', -1}, api.ErrArg},
		{nil, []rune("$"), api.ErrArg},
		{[]rune("a b"), []rune(long(401)), api.ErrArg},
	} {
		if got := e.Name(c.name, c.text); got != c.want {
			t.Errorf("Name(%q, %q): %d, want %d", string(c.name), string(c.text), got, c.want)
		}
	}
	// With an error the abbreviation stays as it was.
	p := newPair(t).name("fn", "<$1>").name("fn", "$").name("fn", "${1/(/a/}").want("fn"+tab, "<|> /1")
	p.name("fn", "a$0").want(abort+"fn"+tab, "a|")
}

func TestManyNames(t *testing.T) {
	p := newPair(t)
	for i := range 20 {
		if e := p.typed.Name([]rune(fmt.Sprint("x", i)), nil); e != api.OK {
			t.Errorf("%d: %d", i, e)
		}
		p.fed.Name([]rune(fmt.Sprint("x", i)), nil)
		p.words.name([]rune(fmt.Sprint("x", i)), nil)
	}
	if e := p.typed.Name([]rune("y"), nil); e != api.ErrFull {
		t.Errorf("one more: %d", e)
	}
	for name, want := range map[string]api.Errno{"y": 3, "x7": 0, "": 1, "x20": 3} {
		if e := p.typed.Name([]rune(name), []rune("a")); e != want {
			t.Errorf("%q: %d, want %d", name, e, want)
		}
	}
	if e := p.typed.Name([]rune("y"), []rune("$")); e != api.ErrForm {
		t.Errorf("y: %d", e)
	}
	if e := p.typed.Name([]rune("y"), []rune{-1}); e != api.ErrArg {
		t.Errorf("y: %d", e)
	}
	p.name("y", "b").name("x7", "a")
	p.want("x7"+tab, "a|").want(abort+"y"+tab, "y| !4").want(abort+"x19"+tab, "|")
}

// What is set while a session is open counts from the next one on.
func TestNamesAndValuesInASession(t *testing.T) {
	p := newPair(t).name("n", "${1:$X}-$1$0").value("X", "a")
	p.want("n"+tab, "[a>-a /1").value("X", "b").name("n", "$X$0").want("c", "c|-c /1").want(tab+" n"+tab, "c-c b|")
	p.want(undone+undone+undone+undone, "n|").want(redone, "[a>-a /1")
}

func TestValue(t *testing.T) {
	e := started(t, 2, 8)
	for _, c := range []struct {
		name, text []rune
		want       api.Errno
	}{
		{[]rune("X"), []rune("a"), api.OK},
		{[]rune("X"), nil, api.OK},
		{[]rune("X"), []rune{'a', -1}, api.ErrArg},
		{[]rune("X"), []rune{0xD800}, api.ErrArg},
		{[]rune("X"), []rune{0x110000, 'a'}, api.ErrArg},
		{[]rune("X"), []rune{0x10FFFF, 0, 10, 0xE000, 0xD7FF}, api.OK},
		// Any name, and any length
		{nil, nil, api.OK},
		{[]rune("a b\n"), nil, api.OK},
		{[]rune{-1, 0xD800, 0x110000}, nil, api.OK},
		{[]rune(strings.Repeat("a", 3000)), []rune(strings.Repeat("a", 3000)), api.OK},
	} {
		if got := e.Value(c.name, c.text); got != c.want {
			t.Errorf("Value(%q, %q): %d, want %d", string(c.name), string(c.text), got, c.want)
		}
	}
}

// Values of the same variable count one by one, and errors do not count.
func TestManyValues(t *testing.T) {
	p := newPair(t).name("n", "$X$Y.")
	for i := range 20 {
		p.value("X", fmt.Sprint("x", i))
		p.value("X", "\xff") // U+FFFD, which is valid
		if i == 9 {
			break
		}
	}
	for _, e := range []*Editor{p.typed, p.fed} {
		for _, name := range []string{"X", "Y", ""} {
			if got := e.Value([]rune(name), []rune("z")); got != api.ErrFull {
				t.Errorf("Value(%q): %d", name, got)
			}
			if got := e.Value([]rune(name), []rune{-1}); got != api.ErrArg {
				t.Errorf("Value(%q): %d", name, got)
			}
		}
	}
	p.want("n"+tab, "\uFFFD.|")
	q := newPair(t).name("n", "$X$Y.").value("Y", "y")
	for range 5 {
		q.typed.Value([]rune("X"), []rune{-1})
		q.fed.Value([]rune("X"), []rune{-1})
	}
	for i := range 19 {
		q.value("X", fmt.Sprint("x", i))
	}
	q.value("Y", "z").want("n"+tab, "x18y.|")
}
