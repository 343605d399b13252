package edits

import (
	"slices"
	"testing"

	"stylus/api"
)

// Below, what edits are and do is told by the chapter's words alone: a text is
// gone through place by place, and what each place is asked.

// validRune is chapter 1's word for runes.
func validRune(r rune) bool {
	return 0 <= r && r <= 0x10FFFF && (r < 0xD800 || 0xDFFF < r)
}

// sum adds numbers that are not below 0; it can't be too great.
func sum(a, b int) uint64 {
	return uint64(a) + uint64(b)
}

func validEdits(l []api.Edit, length int) bool {
	for i, e := range l {
		if e.At < 0 || e.Del < 0 || length < 0 || sum(e.At, e.Del) > uint64(length) {
			return false
		}
		if i > 0 && uint64(e.At) < sum(l[i-1].At, l[i-1].Del) {
			return false
		}
		for _, r := range e.Ins {
			if !validRune(r) {
				return false
			}
		}
	}
	return true
}

// made returns what valid edits make of a text, and the inverse ones.
func made(t []rune, l []api.Edit) (s []rune, inverse []api.Edit) {
	for at := 0; at <= len(t); at++ {
		removed := false
		for _, e := range l {
			if e.At == at {
				inverse = append(inverse, api.Edit{At: len(s), Del: len(e.Ins)})
				s = append(s, e.Ins...)
			}
			removed = removed || e.At <= at && at < e.At+e.Del
		}
		switch {
		case removed:
			last := &inverse[len(inverse)-1]
			last.Ins = append(last.Ins, t[at])
		case at < len(t):
			s = append(s, t[at])
		}
	}
	return s, inverse
}

// moves returns where a place moves.
func moves(l []api.Edit, at int, high bool) int {
	const far = 1 << 31
	if !validEdits(l, far) || at < 0 || at > far {
		return at
	}
	to := at
	for i := len(l) - 1; i >= 0; i-- {
		e := l[i]
		switch {
		case to < e.At:
		case to > e.At+e.Del:
			to += len(e.Ins) - e.Del
		case high:
			to = e.At + len(e.Ins)
		default:
			to = e.At
		}
		if to > far {
			return at
		}
	}
	return to
}

// common returns the greatest number of runes that both begin with.
func common(a, b []rune) int {
	for n := min(len(a), len(b)); ; n-- {
		if slices.Equal(a[:n], b[:n]) {
			return n
		}
	}
}

func backward(l []rune) []rune {
	l = slices.Clone(l)
	slices.Reverse(l)
	return l
}

func between(a, b []rune) []api.Edit {
	if slices.Equal(a, b) {
		return nil
	}
	n := common(a, b)
	a, b = a[n:], b[n:]
	m := common(backward(a), backward(b))
	return []api.Edit{{At: n, Del: len(a) - m, Ins: b[:len(b)-m]}}
}

// holdEdits holds all promises about edits of a text.
func holdEdits(t *testing.T, text []rune, l []api.Edit) {
	t.Helper()
	valid := validEdits(l, len(text))
	if got := Right(l, len(text)); got != valid {
		t.Fatalf("Right(%v, %d): %v", l, len(text), got)
	}
	s, e := Apply(text, l)
	inverse, f := Turn(text, l)
	if !valid {
		if s != nil || e != api.ErrArg || inverse != nil || f != api.ErrArg {
			t.Fatalf("%v of %d runes: %d runes, %d; %v, %d", l, len(text), len(s), e, inverse, f)
		}
		return
	}
	want, turned := made(text, l)
	if f != api.OK || !same(inverse, turned) {
		t.Fatalf("Turn(%v, %v): %v, %d, want %v", text, l, inverse, f, turned)
	}
	if len(want) > 2000 {
		if s != nil || e != api.ErrFull {
			t.Fatalf("%v of %d runes: %d runes, %d", l, len(text), len(s), e)
		}
		return
	}
	if e != api.OK || !slices.Equal(s, want) {
		t.Fatalf("Apply(%v, %v): %v, %d, want %v", text, l, s, e, want)
	}
	holdBack(t, text, s, inverse)
}

// holdBack holds that the inverse edits lead back, if they may: what they
// insert are runes of the text, which may not be valid, or too many.
func holdBack(t *testing.T, text, s []rune, inverse []api.Edit) {
	t.Helper()
	if !validEdits(inverse, len(s)) || len(text) > 2000 {
		return
	}
	if back, e := Apply(s, inverse); !slices.Equal(back, text) || e != api.OK {
		t.Fatalf("%v by %v: %v, %d, want %v", s, inverse, back, e, text)
	}
}

func holdPlace(t *testing.T, l []api.Edit, at int) {
	t.Helper()
	for _, high := range []bool{false, true} {
		if got, want := Place(l, at, high), moves(l, at, high); got != want {
			t.Fatalf("Place(%v, %d, %v): %d, want %d", l, at, high, got, want)
		}
	}
}

func holdBetween(t *testing.T, a, b []rune) {
	t.Helper()
	l := Between(a, b)
	if want := between(a, b); !same(l, want) {
		t.Fatalf("Between(%v, %v): %v, want %v", a, b, l, want)
	}
	if s, _ := made(a, l); !slices.Equal(s, b) {
		t.Fatalf("%v by %v: %v, want %v", a, l, s, b)
	}
}

// everyText returns all texts of at most n of the runes.
func everyText(n int, runes ...rune) [][]rune {
	all := [][]rune{nil}
	for from, length := 0, 0; length < n; length++ {
		to := len(all)
		for _, t := range all[from:to] {
			for _, r := range runes {
				all = append(all, append(slices.Clone(t), r))
			}
		}
		from = to
	}
	return all
}

// everyEdit returns all edits with small numbers, also such as are not valid
// for a length.
func everyEdit(length int, inserted ...[]rune) []api.Edit {
	var all []api.Edit
	for at := -1; at <= length+1; at++ {
		for del := -1; del <= length+1; del++ {
			for _, ins := range inserted {
				all = append(all, api.Edit{At: at, Del: del, Ins: ins})
			}
		}
	}
	return all
}

func TestShortTexts(t *testing.T) {
	inserted := [][]rune{nil, {'x'}, {'y', 'z'}, {'x', -1}}
	for length := range 5 {
		text := []rune("abcd")[:length:length]
		all := everyEdit(length, inserted...)
		for _, a := range all {
			holdEdits(t, text, []api.Edit{a})
			for _, b := range all {
				l := []api.Edit{a, b}
				holdEdits(t, text, l)
				for at := range length + 2 {
					holdPlace(t, l, at)
				}
			}
		}
	}
}

func TestThreeEdits(t *testing.T) {
	for length := range 4 {
		text := []rune("abc")[:length:length]
		all := everyEdit(length, nil, []rune("xy"))
		for _, a := range all {
			for _, b := range all {
				for _, c := range all {
					l := []api.Edit{a, b, c}
					holdEdits(t, text, l)
					for at := range length + 2 {
						holdPlace(t, l, at)
					}
				}
			}
		}
	}
}

func TestShortTextsBetween(t *testing.T) {
	two, four := everyText(6, 'a', 'b'), everyText(3, 'a', 'b', -1, 0xD800)
	for _, all := range [][][]rune{two, four} {
		for _, a := range all {
			for _, b := range all {
				holdBetween(t, a, b)
			}
		}
	}
}

// lot draws numbers.
type lot uint64

func (d *lot) draw(n int) int {
	*d = *d*6364136223846793005 + 1442695040888963407
	return int(uint64(*d) >> 33 % uint64(n))
}

// text draws a text of any runes.
func (d *lot) text(length int) []rune {
	runes := []rune{'a', 'b', 10, 'é', '漢', 0x1F600, 0xFFFD, -1, 0xD800, 0x110000}
	if d.draw(4) > 0 {
		runes = runes[:1+d.draw(7)]
	}
	t := make([]rune, length)
	for i := range t {
		t[i] = runes[d.draw(len(runes))]
	}
	return t
}

// edits draws edits of a text, most of which are valid.
func (d *lot) edits(length, most int) []api.Edit {
	var l []api.Edit
	at := 0
	for range d.draw(most + 1) {
		at += d.draw(2) * d.draw(1+2*length/(most+1))
		e := api.Edit{At: at, Del: d.draw(2) * d.draw(1+2*length/(most+1)), Ins: d.inserted(most)}
		if d.draw(8*most) == 0 {
			e.At += d.draw(5) - 2
			e.Del += d.draw(5) - 2
		}
		if e.At+e.Del > length && d.draw(10) > 0 {
			break
		}
		l = append(l, e)
		at = e.At + e.Del
	}
	return l
}

// inserted draws what an edit inserts: seldom runes that are not valid.
func (d *lot) inserted(most int) []rune {
	ins := d.text(d.draw(2) * d.draw(5))
	if d.draw(9*most) > 0 {
		ins = slices.DeleteFunc(ins, func(r rune) bool { return !validRune(r) })
	}
	return ins
}

func TestDrawnEdits(t *testing.T) {
	d := lot(13)
	for range 60000 {
		text := d.text(d.draw(30))
		l := d.edits(len(text), 1+d.draw(8))
		holdEdits(t, text, l)
		holdPlace(t, l, d.draw(len(text)+3)-1)
		holdPlace(t, l, 1<<31-d.draw(20)+3)
	}
}

func TestDrawnLongEdits(t *testing.T) {
	d := lot(14)
	for range 1500 {
		text := d.text(1900 + d.draw(200))
		l := d.edits(len(text), 40)
		if d.draw(3) == 0 {
			l = append(l, api.Edit{At: len(text), Ins: long(d.draw(250))})
		}
		holdEdits(t, text, l)
		for range 9 {
			holdPlace(t, l, d.draw(len(text)+3)-1)
		}
	}
}

func TestDrawnBetween(t *testing.T) {
	d := lot(15)
	for range 30000 {
		a := d.text(d.draw(40))
		b := d.text(d.draw(6))
		if l := d.edits(len(a), 1+d.draw(3)); validEdits(l, len(a)) {
			b, _ = made(a, l)
		}
		holdBetween(t, a, b)
		holdBetween(t, b, a)
	}
}
