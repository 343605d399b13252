package multi

import (
	"slices"
	"testing"

	"stylus/api"
	"stylus/sels"
)

// Below, each of the chapter's words has a function of its own, which follows
// them one by one, and nothing else.

// wordRune is chapter 12's word for runes.
func wordRune(r rune) bool {
	return 'A' <= r && r <= 'Z' || 'a' <= r && r <= 'z' || '0' <= r && r <= '9' || r == '_' || r >= 128
}

// exchanged is the edit that exchanges the runes at a place and after it.
func exchanged(t []rune, p int) api.Edit {
	return api.Edit{At: p, Del: 2, Ins: []rune{t[p+1], t[p]}}
}

// commanded returns the edit of a command at a selection within a text, and the
// caret after it.
func commanded(kind int, t []rune, s api.Sel, ins []rune) (api.Edit, int) {
	p := s.Head
	switch {
	case kind == Transpose && p > 0 && p < len(t):
		return exchanged(t, p-1), p + 1
	case kind == Transpose && p == len(t) && p >= 2:
		return exchanged(t, p-2), p
	case kind == Transpose:
		return api.Edit{At: p}, p
	case s.Anchor < p && kind == Insert:
		return api.Edit{At: s.Anchor, Del: p - s.Anchor, Ins: ins}, s.Anchor + len(ins)
	case s.Anchor > p && kind == Insert:
		return api.Edit{At: p, Del: s.Anchor - p, Ins: ins}, p + len(ins)
	case s.Anchor < p:
		return api.Edit{At: s.Anchor, Del: p - s.Anchor}, s.Anchor
	case s.Anchor > p:
		return api.Edit{At: p, Del: s.Anchor - p}, p
	}
	return atCaret(kind, t, p, ins)
}

// atCaret is a row of the table, without the last one.
func atCaret(kind int, t []rune, p int, ins []rune) (api.Edit, int) {
	switch kind {
	case Insert:
		return api.Edit{At: p, Ins: ins}, p + len(ins)
	case DelLeft:
		if p > 0 {
			return api.Edit{At: p - 1, Del: 1}, p - 1
		}
	case DelRight:
		if p < len(t) {
			return api.Edit{At: p, Del: 1}, p
		}
	case KillWord:
		gap := slices.IndexFunc(append(slices.Clone(t[p:]), 'a'), wordRune)
		word := slices.IndexFunc(append(slices.Clone(t[p+min(gap, len(t)-p):]), ' '), func(r rune) bool { return !wordRune(r) })
		return api.Edit{At: p, Del: min(gap+word, len(t)-p)}, p
	case KillLine:
		line := slices.Index(append(slices.Clone(t[p:]), 10), 10)
		if line == 0 && p < len(t) {
			line = 1
		}
		return api.Edit{At: p, Del: line}, p
	}
	return api.Edit{At: p}, p
}

// spliced returns what an edit makes of a text.
func spliced(t []rune, e api.Edit) []rune {
	var s []rune
	s = append(s, t[:e.At]...)
	s = append(s, e.Ins...)
	return append(s, t[e.At+e.Del:]...)
}

// low returns where a place moves by an edit, low.
func low(at int, e api.Edit) int {
	switch {
	case at < e.At:
		return at
	case at > e.At+e.Del:
		return at - e.Del + len(e.Ins)
	}
	return e.At
}

// caretsAt returns carets, normalised: each place once, in order.
func caretsAt(places []int) []api.Sel {
	places = slices.Clone(places)
	slices.Sort(places)
	return at(slices.Compact(places)...)
}

// executed returns what a command at selections comes to, and whether the text
// is never too long.
func executed(kind int, t []rune, l []api.Sel, ins []rune) (Done, bool) {
	l = sels.Normal(l, len(t))
	fits := len(t) <= 2000
	carets := make([]int, len(l))
	killed := make([][]rune, len(l))
	for i := len(l) - 1; i >= 0; i-- {
		e, caret := commanded(kind, t, l[i], ins)
		if kind != Transpose {
			killed[i] = slices.Clone(t[e.At : e.At+e.Del])
		}
		t = spliced(t, e)
		fits = fits && len(t) <= 2000
		for k := i + 1; k < len(l); k++ {
			carets[k] = low(carets[k], e)
		}
		carets[i] = caret
	}
	return Done{Text: t, Killed: slices.Concat(killed...), Sels: caretsAt(carets)}, fits
}

func sameDone(a, b Done) bool {
	return slices.Equal(a.Text, b.Text) && slices.Equal(a.Killed, b.Killed) && slices.Equal(a.Sels, b.Sels)
}

// holdAt holds what At returns against the words, for any selection.
func holdAt(t *testing.T, kind int, text []rune, s api.Sel, ins []rune) {
	t.Helper()
	var want api.Edit
	wantCaret, wantErr := 0, api.ErrArg
	if min(s.Anchor, s.Head) >= 0 && max(s.Anchor, s.Head) <= len(text) {
		want, wantCaret = commanded(kind, text, s, ins)
		wantErr = api.OK
	}
	e, caret, err := At(kind, text, s, ins)
	if !same(e, want) || caret != wantCaret || err != wantErr {
		t.Fatalf("At(%d, %q, %v, %q): %v, %d, %d, want %v, %d, %d", kind, text, s, ins, e, caret, err, want, wantCaret, wantErr)
	}
}

// holdDo holds what Do returns against the words, and what follows from them.
func holdDo(t *testing.T, kind int, text []rune, l []api.Sel, ins []rune) {
	t.Helper()
	want, fits := executed(kind, text, l, ins)
	d, e := Do(kind, text, l, ins)
	if !fits {
		if !sameDone(d, Done{}) || e != api.ErrFull {
			t.Fatalf("Do(%d) of %d runes at %v, %d inserted: %d, %v, %d, want ErrFull alone", kind, len(text), l, len(ins), len(d.Text), d.Sels, e)
		}
		return
	}
	if !sameDone(d, want) || e != api.OK {
		t.Fatalf("Do(%d, %q, %v, %q): %v, %d, want %v", kind, text, l, ins, d, e, want)
	}
	if !sels.Is(d.Sels, len(d.Text)) {
		t.Fatalf("Do(%d, %q, %v, %q): %v is not normal", kind, text, l, ins, d.Sels)
	}
	holdForward(t, kind, text, l, ins, d)
	if normal := sels.Normal(l, len(text)); len(normal) == 1 {
		holdOne(t, kind, text, normal[0], ins, d)
	}
}

// P14.3

// forward returns what a command at selections comes to if it is executed from
// the first one on, each one moved by the edits before it.
func forward(kind int, t []rune, l []api.Sel, ins []rune) Done {
	l = sels.Normal(l, len(t))
	var carets []int
	var killed []rune
	for i := range l {
		e, caret, _ := At(kind, t, l[i], ins)
		killed = append(killed, t[e.At:e.At+e.Del]...)
		t = spliced(t, e)
		for k := range carets {
			carets[k] = low(carets[k], e)
		}
		carets = append(carets, caret)
		for k := i + 1; k < len(l); k++ {
			l[k] = sel(low(l[k].Anchor, e), low(l[k].Head, e))
		}
	}
	return Done{Text: t, Killed: killed, Sels: caretsAt(carets)}
}

// holdForward holds that what a command came to is the same from the first
// selection on, if it is of one of the three kinds.
func holdForward(t *testing.T, kind int, text []rune, l []api.Sel, ins []rune, d Done) {
	t.Helper()
	if kind > DelRight {
		return
	}
	if f := forward(kind, text, l, ins); !sameDone(d, f) {
		t.Fatalf("Do(%d, %q, %v, %q): %v, but from the first one on %v", kind, text, l, ins, d, f)
	}
}

// P14.4

// holdOne holds that a command at one selection changes what its edit says, and
// that its caret is the one of At.
func holdOne(t *testing.T, kind int, text []rune, s api.Sel, ins []rune, d Done) {
	t.Helper()
	e, caret, err := At(kind, text, s, ins)
	if err != api.OK || !slices.Equal(d.Sels, at(caret)) {
		t.Fatalf("Do(%d, %q, %v, %q): %v, but At: %d, %d", kind, text, s, ins, d.Sels, caret, err)
	}
	end := e.At + e.Del
	ahead, removed, behind := text[:e.At], text[e.At:end], text[end:]
	if kind == Transpose {
		removed = nil
	}
	inserted := len(d.Text) - len(ahead) - len(behind)
	if inserted != len(e.Ins) || !slices.Equal(d.Text[:e.At], ahead) || !slices.Equal(d.Text[e.At+inserted:], behind) {
		t.Fatalf("Do(%d, %q, %v, %q): %q, where more is changed than by %v", kind, text, s, ins, d.Text, e)
	}
	if !slices.Equal(d.Text[e.At:e.At+inserted], e.Ins) || !slices.Equal(d.Killed, removed) {
		t.Fatalf("Do(%d, %q, %v, %q): %q, %q, but At: %v", kind, text, s, ins, d.Text, d.Killed, e)
	}
}

// everyText returns all texts of at most n of the runes.
func everyText(n int, runes ...rune) [][]rune {
	all := [][]rune{nil}
	for from, length := 0, 0; length < n; length++ {
		to := len(all)
		for _, t := range all[from:to] {
			for _, r := range runes {
				all = append(all, append(slices.Clone(t), r))
			}
		}
		from = to
	}
	return all
}

// everySel returns all selections with places from a to b.
func everySel(a, b int) []api.Sel {
	var all []api.Sel
	for anchor := a; anchor <= b; anchor++ {
		for head := a; head <= b; head++ {
			all = append(all, sel(anchor, head))
		}
	}
	return all
}

// holdKinds holds all kinds at selections.
func holdKinds(t *testing.T, text []rune, l ...api.Sel) {
	t.Helper()
	for _, kind := range kinds {
		hold := func(ins ...rune) {
			t.Helper()
			holdDo(t, kind, text, l, ins)
			if len(l) == 1 {
				holdAt(t, kind, text, l[0], ins)
			}
		}
		hold('x')
		if kind == Insert {
			hold()
			hold('y', 'z', 10)
		}
	}
}

func TestAllShortTexts(t *testing.T) {
	for _, text := range everyText(6, 'a', ' ', 10) {
		for _, s := range everySel(-1, len(text)+1) {
			holdKinds(t, text, s)
		}
	}
}

// Runes that are all different tell which ones are removed and exchanged.
func TestTextsOfDifferentRunes(t *testing.T) {
	for n := range 9 {
		text := []rune("abcdefgh")[:n]
		for _, s := range everySel(-1, n+1) {
			holdKinds(t, text, s)
			for _, u := range everySel(-1, n+1) {
				holdKinds(t, text, s, u)
			}
		}
	}
	text := []rune("a, b")
	all := everySel(0, 4)
	for _, a := range all {
		for _, b := range all {
			for _, c := range all {
				holdKinds(t, text, a, b, c)
			}
		}
	}
}

// holdCarets holds all kinds at each set of carets in a text.
func holdCarets(t *testing.T, text []rune) {
	t.Helper()
	for set := range 1 << (len(text) + 1) {
		var l []api.Sel
		for p := range len(text) + 1 {
			if set>>p&1 == 1 {
				l = append(l, sel(p, p))
			}
		}
		holdKinds(t, text, l...)
	}
}

func TestAllSetsOfCarets(t *testing.T) {
	for _, text := range everyText(5, 'a', ' ', 10) {
		holdCarets(t, text)
	}
	for _, text := range []string{"abcdefghij", "a bc, d\ne ", "\n\na\n b\n\n", ", a; b- c"} {
		for n := range len(text) + 1 {
			holdCarets(t, []rune(text[:n]))
		}
	}
}

// lot draws numbers, the same ones in each run.
type lot uint64

func (d *lot) draw(n int) int {
	*d = *d*6364136223846793005 + 1442695040888963407
	return int(uint64(*d) >> 33 % uint64(n))
}

// text draws a text of any runes.
func (d *lot) text(length int) []rune {
	runes := []rune{'a', ' ', 10, 'b', ',', '_', 'é', '漢', 0x1F600, 0xFFFD, -1, 0xD800, 0x110000}
	runes = runes[:1+d.draw(len(runes))]
	t := make([]rune, length)
	for i := range t {
		t[i] = runes[d.draw(len(runes))]
	}
	return t
}

// inserted draws runes that are valid.
func (d *lot) inserted(length int) []rune {
	return slices.DeleteFunc(d.text(length), func(r rune) bool { return r < 0 || r == 0xD800 || r > 0x10FFFF })
}

// sels draws selections, some of which are side by side, and some outside.
func (d *lot) sels(length, most int) []api.Sel {
	var l []api.Sel
	reach := 1 + d.draw(6)
	for range d.draw(most + 1) {
		p := d.draw(length+3) - 1
		if len(l) > 0 && d.draw(3) > 0 {
			p = l[len(l)-1].Head + d.draw(5) - 1
		}
		q := p
		if d.draw(3) == 0 {
			q += d.draw(2*reach+1) - reach
		}
		l = append(l, sel(p, q))
	}
	return l
}

func TestDrawnTexts(t *testing.T) {
	d := lot(14)
	for range 40000 {
		text := d.text(d.draw(40))
		l := d.sels(len(text), 1+d.draw(20))
		ins := d.inserted(d.draw(4))
		for _, kind := range kinds {
			holdDo(t, kind, text, l, ins)
			holdAt(t, kind, text, sel(d.draw(len(text)+3)-1, d.draw(len(text)+3)-1), ins)
		}
	}
}

func TestDrawnLongTexts(t *testing.T) {
	d := lot(15)
	for range 700 {
		text := d.text(1950 + d.draw(60))
		l := d.sels(len(text), 1+d.draw(40))
		if d.draw(3) == 0 {
			p := d.draw(len(text))
			l = append(l, sel(p, p+d.draw(90)))
		}
		ins := d.inserted(d.draw(6))
		for _, kind := range kinds {
			holdDo(t, kind, text, l, ins)
		}
	}
}
