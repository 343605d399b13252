package abbr

import (
	"fmt"
	"math"
	"slices"
	"testing"

	"stylus/api"
	"stylus/snippet"
)

// The chapter's words, one by one, on a list of names with their parts.

type abbreviation struct {
	name  []rune
	parts []snippet.Node
}

type words struct {
	list []abbreviation
}

func wordsValid(r rune) bool {
	return r >= 0 && r <= 0x10FFFF && (r < 0xD800 || r > 0xDFFF)
}

func wordsPermitted(name []rune) bool {
	for _, r := range name {
		if !wordsValid(r) || r == 32 || r == 9 || r == 10 {
			return false
		}
	}
	return len(name) >= 1 && len(name) <= 20
}

func wordsIsWord(r rune) bool {
	for _, c := range "ABCDEFGHIJKLMNOPQRSTUVWXYZabcdefghijklmnopqrstuvwxyz0123456789_" {
		if r == c {
			return true
		}
	}
	return r >= 128
}

func (w *words) index(name []rune) int {
	for i, a := range w.list {
		if slices.Equal(a.name, name) {
			return i
		}
	}
	return -1
}

func (w *words) set(name, text []rune) api.Errno {
	if !wordsPermitted(name) {
		return api.ErrArg
	}
	l, _, e := snippet.Parse(slices.Clone(text))
	if e != api.OK {
		return e
	}
	i := w.index(name)
	if i >= 0 {
		w.list[i].parts = l
		return api.OK
	}
	if len(w.list) == 20 {
		return api.ErrFull
	}
	w.list = append(w.list, abbreviation{slices.Clone(name), l})
	return api.OK
}

func (w *words) drop(name []rune) api.Errno {
	i := w.index(name)
	if i < 0 {
		return api.ErrNone
	}
	w.list = append(w.list[:i], w.list[i+1:]...)
	return api.OK
}

func (w *words) get(name []rune) ([]snippet.Node, api.Errno) {
	i := w.index(name)
	if i < 0 {
		return nil, api.ErrNone
	}
	return w.list[i].parts, api.OK
}

func (w *words) ahead(text []rune, at int) ([]rune, bool) {
	var found []rune
	if at < 0 || at > len(text) {
		return nil, false
	}
	for _, a := range w.list {
		n := len(a.name)
		if n > at || !slices.Equal(text[at-n:at], a.name) {
			continue
		}
		may := at == n || !wordsIsWord(a.name[0]) || !wordsIsWord(text[at-n-1])
		if may && n > len(found) {
			found = a.name
		}
	}
	return found, len(found) > 0
}

// pair is a table, and the words about it.
type pair struct {
	t *testing.T
	x *Table
	w words
}

func newPair(t *testing.T) *pair {
	return &pair{t: t, x: New()}
}

func (p *pair) hold(same bool, format string, a ...any) {
	if !same {
		p.t.Helper()
		p.t.Errorf("with %v: %s", p.w.list, fmt.Sprintf(format, a...))
	}
}

func (p *pair) set(name, text []rune) {
	p.t.Helper()
	e, want := p.x.Set(name, text), p.w.set(name, text)
	p.hold(e == want, "Set(%v, %v): %d, want %d", name, text, e, want)
	p.holdLen()
}

func (p *pair) drop(name []rune) {
	p.t.Helper()
	e, want := p.x.Drop(name), p.w.drop(name)
	p.hold(e == want, "Drop(%v): %d, want %d", name, e, want)
	p.holdLen()
}

func (p *pair) get(name []rune) {
	p.t.Helper()
	l, e := p.x.Get(name)
	m, want := p.w.get(name)
	p.hold(e == want && same(l, m), "Get(%v): %v, %d, want %v, %d", name, l, e, m, want)
}

func (p *pair) ahead(text []rune, at int) {
	p.t.Helper()
	name, is := p.x.Ahead(text, at)
	want, may := p.w.ahead(text, at)
	p.hold(is == may && slices.Equal(name, want), "Ahead(%v, %d): %v, %v, want %v", text, at, name, is, want)
}

func (p *pair) holdLen() {
	p.t.Helper()
	p.hold(p.x.Len() == len(p.w.list), "Len: %d", p.x.Len())
}

// holdThose holds what is set: P17.3.
func (p *pair) holdThose() {
	p.t.Helper()
	p.holdLen()
	for _, a := range p.w.list {
		p.get(a.name)
		p.ahead(a.name, len(a.name))
	}
}

// aheadOf holds all places of a text, and those next to them.
func (p *pair) aheadOf(text []rune) {
	p.t.Helper()
	for at := -1; at <= len(text)+1; at++ {
		p.ahead(text, at)
	}
}

// allTexts calls f with all texts of up to n of some runes.
func allTexts(runes []rune, n int, f func(text []rune)) {
	var grow func(text []rune)
	grow = func(text []rune) {
		f(text)
		if len(text) == n {
			return
		}
		for _, r := range runes {
			grow(append(text, r))
		}
	}
	grow(make([]rune, 0, n))
}

func listed(runes []rune, n int) [][]rune {
	var all [][]rune
	allTexts(runes, n, func(text []rune) {
		all = append(all, slices.Clone(text))
	})
	return all
}

// All tables of up to three names of up to three of two runes, with all texts of
// up to five runes.
func TestAllSmallTables(t *testing.T) {
	for _, runes := range [][]rune{{'a', '-'}, {'_', ' '}, {0xFFFD, 0}} {
		t.Run(fmt.Sprint(runes), func(t *testing.T) {
			t.Parallel()
			names := listed(runes, 3)
			texts := listed(runes, 5)
			for i := range names {
				for j := range i + 1 {
					for k := range j + 1 {
						p := newPair(t)
						for _, n := range []int{i, j, k} {
							p.set(names[n], nil)
						}
						for _, text := range texts {
							p.aheadOf(text)
						}
					}
				}
			}
		})
	}
}

// The same with one name more, and with runes that are not valid in the texts.
func TestAllSmallTablesAndOddRunes(t *testing.T) {
	names := listed([]rune{'a', '(', 0xFFFD}, 2)
	texts := listed([]rune{'a', '(', 0xFFFD, -1, 0xD800, 0x110000}, 4)
	for i := range names {
		t.Run(fmt.Sprint(i), func(t *testing.T) {
			t.Parallel()
			for j := range i + 1 {
				p := newPair(t)
				p.set(names[i], nil)
				p.set(names[j], nil)
				p.set([]rune{'(', 'a'}, nil)
				for _, text := range texts {
					p.aheadOf(text)
				}
			}
		})
	}
}

// step is what is done with a table.
type step func(p *pair)

func steps() []step {
	var all []step
	for _, name := range [][]rune{{'a'}, {'a', 'b'}, {'b'}, {' '}} {
		for _, text := range []string{"", "$1", "${"} {
			all = append(all, func(p *pair) { p.set(name, []rune(text)) })
		}
		all = append(all, func(p *pair) { p.drop(name) })
	}
	return all
}

func holdNear(p *pair) {
	for _, name := range [][]rune{{'a'}, {'b'}, {'a', 'b'}, {'b', 'a'}, {}, {' '}} {
		p.get(name)
		p.ahead(name, len(name))
	}
	p.ahead([]rune{'a', ' ', 'a', 'b'}, 4)
	p.holdThose()
}

// All sequences of four steps.
func TestAllSequences(t *testing.T) {
	all := steps()
	for first := range all {
		t.Run(fmt.Sprint(first), func(t *testing.T) {
			t.Parallel()
			for n := range len(all) * len(all) * len(all) {
				p := newPair(t)
				all[first](p)
				for rest, i := n, 0; i < 3; rest, i = rest/len(all), i+1 {
					all[rest%len(all)](p)
				}
				holdNear(p)
			}
		})
	}
}

// lot draws numbers.
type lot uint64

func (l *lot) draw(n int) int {
	*l = *l*6364136223846793005 + 1442695040888963407
	return int(uint64(*l)>>33) % n
}

func (l *lot) text(runes []rune, n int) []rune {
	text := make([]rune, l.draw(n+1))
	for i := range text {
		text[i] = runes[l.draw(len(runes))]
	}
	return text
}

func (l *lot) snippet() []rune {
	var text []rune
	for range l.draw(5) {
		text = append(text, []rune([]string{"x", "$1", "${2:", "}", "\\$", "$", "${a/(b)/<$1>/g}", "${3|", "|}", ",", "${1:y}"}[l.draw(11)])...)
	}
	return text
}

// Many steps one behind the other, in tables that are full most of the time.
func TestDrawnSequences(t *testing.T) {
	for seed := range 16 {
		t.Run(fmt.Sprint(seed), func(t *testing.T) {
			t.Parallel()
			l := lot(seed)
			runes := [][]rune{{'a', 'b', 'c'}, {'a', '-', '('}, {'a', '-', 0xFFFD, 0xE9}, {'a', '-', ' ', -1, 0xD800, 0x110000, 0xFFFD, 'A'}}[seed%4]
			for range 30 {
				p := newPair(t)
				drops := 2 + l.draw(4)
				for range 120 {
					if l.draw(drops) == 0 {
						p.drop(l.text(runes, 3))
					} else {
						p.set(l.text(runes, 3), l.snippet())
					}
					p.get(l.text(runes, 3))
					p.aheadOf(l.text(runes, 6))
					p.holdThose()
				}
			}
		})
	}
}

// Names of all lengths, the ends of which are names too.
func TestDrawnLongNames(t *testing.T) {
	for seed := range 8 {
		t.Run(fmt.Sprint(seed), func(t *testing.T) {
			t.Parallel()
			l := lot(seed + 100)
			runes := []rune{'a', '-', 0xE9}[:1+seed%3]
			for range 300 {
				long := l.text(runes, 30)
				p := newPair(t)
				for range 40 {
					p.set(long[l.draw(len(long)+1):], l.snippet())
					p.set(l.text(runes, 24), nil)
					if l.draw(3) == 0 {
						p.drop(long[l.draw(len(long)+1):])
					}
				}
				p.holdThose()
				p.aheadOf(long)
				p.aheadOf(slices.Concat(l.text(runes, 5), long, l.text(runes, 5)))
			}
		})
	}
}

// Each rune that there is as a name, ahead of a name, and as its first one.
func TestEachRune(t *testing.T) {
	const part = 0x110100 / 16
	for i := range 16 {
		t.Run(fmt.Sprint(i), func(t *testing.T) {
			t.Parallel()
			p := newPair(t)
			p.set([]rune("n"), nil)
			for r := rune(i*part - 128); r < rune((i+1)*part-128)+16; r++ {
				name := []rune{r, '('}
				p.ahead([]rune{r, 'n'}, 2)
				p.set(name, nil)
				p.get(name)
				p.ahead(name, 2)
				p.ahead([]rune{'a', r, '('}, 3)
				p.drop(name)
			}
			for _, r := range []rune{math.MinInt32, math.MaxInt32} {
				p.ahead([]rune{r, 'n'}, 2)
				p.set([]rune{r}, nil)
			}
		})
	}
}
