package rope

import (
	"math"
	"slices"
	"testing"

	"stylus/api"
)

// Runes of each number of bytes, at both ends of what has so many.
func sizedRunes() [][]rune {
	return [][]rune{
		1: {0, 10, 'a', 127},
		2: {128, 0xE9, 2047},
		3: {2048, 0x20AC, 55295, 57344, 65535},
		4: {65536, 0x1F600, 1114111},
	}
}

// wrongRunes are not valid.
func wrongRunes() []rune {
	return []rune{math.MinInt32, -1, 55296, 56319, 56320, 57343, 1114112, math.MaxInt32}
}

// size follows the words of chapter 1 on encodings.
func size(r rune) int {
	switch {
	case r < 128:
		return 1
	case r < 2048:
		return 2
	case r < 65536:
		return 3
	}
	return 4
}

// starts follows the words of the chapter: lines begin at place 0, and after each rune 10.
func starts(l []rune) []int {
	s := []int{0}
	for i, r := range l {
		if r == 10 {
			s = append(s, i+1)
		}
	}
	return s
}

// lineOf follows the words of P3.3: how many lines begin after place 0 and not after at.
func lineOf(l []rune, at int) int {
	n := 0
	for _, s := range starts(l) {
		if 0 < s && s <= at {
			n++
		}
	}
	return n
}

// bytesOf counts the bytes of the runes before a place.
func bytesOf(l []rune, at int) int {
	n := 0
	for _, r := range l[:at] {
		n += size(r)
	}
	return n
}

func of(t *testing.T, l []rune) *Rope {
	t.Helper()
	r, e := Of(l)
	if r == nil || e != api.OK {
		t.Fatalf("Of of %d runes: %v, %d", len(l), r, e)
	}
	return r
}

// hold holds all that a rope tells at single places and lines against a text.
func hold(t *testing.T, r *Rope, want []rune) {
	t.Helper()
	if r.Len() != len(want) {
		t.Fatalf("Len: %d, want %d", r.Len(), len(want))
	}
	if got, e := r.Slice(0, len(want)); e != api.OK || !slices.Equal(got, want) {
		t.Fatalf("Slice: %x, %d, want %x", got, e, want)
	}
	begins := starts(want)
	if r.Lines() != len(begins) {
		t.Fatalf("Lines of %x: %d, want %d", want, r.Lines(), len(begins))
	}
	for line, begin := range begins {
		if got, e := r.Start(line); got != begin || e != api.OK {
			t.Fatalf("Start(%d) of %x: %d, %d, want %d", line, want, got, e, begin)
		}
	}
	line, bytes := 0, 0
	for at := range len(want) + 1 {
		if at > 0 {
			bytes += size(want[at-1])
			if want[at-1] == 10 {
				line++
			}
		}
		if got, e := r.Line(at); got != line || e != api.OK {
			t.Fatalf("Line(%d) of %x: %d, %d, want %d", at, want, got, e, line)
		}
		if got, e := r.Bytes(at); got != bytes || e != api.OK {
			t.Fatalf("Bytes(%d) of %x: %d, %d, want %d", at, want, got, e, bytes)
		}
	}
}

// holdNodes holds the nodes against what the comments in node.go say of them.
func holdNodes(t *testing.T, r *Rope) {
	t.Helper()
	for i, n := range r.nodes {
		if n.runes != len(n.chunk) || n.runes == 0 || n.runes > longest || cap(n.chunk) != n.runes {
			t.Fatalf("node %d: %d runes, a chunk of %d with a capacity of %d", i, n.runes, len(n.chunk), cap(n.chunk))
		}
		if i > 0 && r.nodes[i-1].runes+n.runes <= longest {
			t.Fatalf("nodes %d and %d have %d and %d runes, and would fit into one", i-1, i, r.nodes[i-1].runes, n.runes)
		}
	}
}

// long returns a text in which each rune tells its place, with new lines among them.
func long(n int) []rune {
	l := make([]rune, n)
	for i := range l {
		l[i] = rune(0x1000 + i)
		if i%7 == 3 || i%64 == 63 {
			l[i] = 10
		}
	}
	return l
}

// shortTexts calls f for all texts of at most so many runes, one of each kind.
func shortTexts(most int, f func(l []rune)) {
	var grow func(l []rune)
	grow = func(l []rune) {
		f(l)
		if len(l) == most {
			return
		}
		for _, r := range []rune{10, 'a', 0x1F600} {
			grow(append(slices.Clone(l), r))
		}
	}
	grow(nil)
}

// sizes lie at the edges of texts and of chunks.
func sizes() []int {
	return []int{0, 1, 2, longest - 1, longest, longest + 1, 2*longest - 1, 2 * longest, 2*longest + 1, 999, api.MaxText - 1, api.MaxText}
}

// notPlaces are no places of a text with n runes.
func notPlaces(n int) []int {
	return []int{math.MinInt, math.MinInt + 1, math.MinInt32, -n - 1, -2, -1, n + 1, n + 2, math.MaxInt32, math.MaxInt - 1, math.MaxInt}
}

// P3.1

func TestOfHoldsItsText(t *testing.T) {
	for _, c := range []struct {
		text  string
		lines int
	}{
		{"", 1}, {"a", 1}, {"ab\nc", 2}, {"\n", 2}, {"\na", 2}, {"a\n", 2}, {"a\n\n\nb", 4}, {"\n\n\n", 4}, {"\r\v\f\u0085\u2028\u2029", 1},
	} {
		r := of(t, []rune(c.text))
		if r.Lines() != c.lines {
			t.Errorf("Lines of %q: %d, want %d", c.text, r.Lines(), c.lines)
		}
		hold(t, r, []rune(c.text))
	}
	shortTexts(6, func(l []rune) { hold(t, of(t, l), l) })
}

func TestOfNoRunes(t *testing.T) {
	for _, l := range [][]rune{nil, {}} {
		r := of(t, l)
		if r.Len() != 0 || r.Lines() != 1 {
			t.Errorf("no runes: Len %d, Lines %d", r.Len(), r.Lines())
		}
		hold(t, r, nil)
	}
}

func TestOfEachSize(t *testing.T) {
	for _, n := range sizes() {
		r := of(t, long(n))
		hold(t, r, long(n))
		holdNodes(t, r)
		if lines := of(t, slices.Repeat([]rune{10}, n)).Lines(); lines != n+1 {
			t.Errorf("Lines of %d new lines: %d", n, lines)
		}
	}
}

func TestOfTooManyRunes(t *testing.T) {
	for _, n := range []int{api.MaxText + 1, api.MaxText + 2, 5000, 100000} {
		if r, e := Of(make([]rune, n)); r != nil || e != api.ErrFull {
			t.Errorf("Of of %d runes: %v, %d", n, r, e)
		}
	}
}

func TestOfRunesThatAreNotValid(t *testing.T) {
	for _, wrong := range wrongRunes() {
		for _, n := range []int{1, 2, longest + 1, api.MaxText, api.MaxText + 1, 5000} {
			for _, at := range []int{0, n / 2, n - 1} {
				l := make([]rune, n)
				l[at] = wrong
				if r, e := Of(l); r != nil || e != api.ErrArg {
					t.Errorf("Of of %d runes with %x at %d: %v, %d", n, wrong, at, r, e)
				}
			}
		}
	}
}

func TestOfRunesAtTheEdgesOfValid(t *testing.T) {
	for _, runes := range sizedRunes() {
		for _, r := range runes {
			hold(t, of(t, []rune{r}), []rune{r})
		}
	}
}

// P3.2

func TestInsertIntoShortTexts(t *testing.T) {
	shortTexts(4, func(l []rune) {
		shortTexts(2, func(more []rune) {
			for at := range len(l) + 1 {
				r := of(t, l)
				if e := r.Insert(at, more); e != api.OK {
					t.Fatalf("Insert(%d, %x) into %x: %d", at, more, l, e)
				}
				hold(t, r, slices.Insert(slices.Clone(l), at, more...))
			}
		})
	})
}

func TestInsertAtEdges(t *testing.T) {
	for _, n := range sizes() {
		for _, m := range sizes() {
			if n+m > api.MaxText {
				continue
			}
			for _, at := range []int{0, 1, n / 2, longest - 1, longest, longest + 1, n - 1, n} {
				if at < 0 || at > n {
					continue
				}
				r := of(t, long(n))
				more := slices.Repeat([]rune{'x'}, m)
				if e := r.Insert(at, more); e != api.OK {
					t.Fatalf("Insert(%d) of %d runes into %d: %d", at, m, n, e)
				}
				got, _ := r.Slice(0, n+m)
				if !slices.Equal(got, slices.Insert(long(n), at, more...)) {
					t.Fatalf("Insert(%d) of %d runes into %d: %x", at, m, n, got)
				}
				holdNodes(t, r)
			}
		}
	}
}

func TestInsertUpToTheLimit(t *testing.T) {
	for _, n := range sizes() {
		for _, at := range []int{0, n / 2, n} {
			r := of(t, long(n))
			if e := r.Insert(at, make([]rune, api.MaxText-n+1)); e != api.ErrFull {
				t.Errorf("one rune too many, at %d of %d: %d", at, n, e)
			}
			if e := r.Insert(at, make([]rune, 9999)); e != api.ErrFull {
				t.Errorf("far too many runes, at %d of %d: %d", at, n, e)
			}
			hold(t, r, long(n))
			if e := r.Insert(at, make([]rune, api.MaxText-n)); e != api.OK {
				t.Errorf("just as many as fit, at %d of %d: %d", at, n, e)
			}
			full := slices.Insert(long(n), at, make([]rune, api.MaxText-n)...)
			hold(t, r, full)
			for _, l := range [][]rune{nil, {}} {
				if e := r.Insert(at, l); e != api.OK {
					t.Errorf("no runes into a full text: %d", e)
				}
			}
			if e := r.Insert(at, []rune{'x'}); e != api.ErrFull {
				t.Errorf("a rune into a full text: %d", e)
			}
			hold(t, r, full)
		}
	}
}

func TestInsertWithWrongArguments(t *testing.T) {
	for _, n := range sizes() {
		r := of(t, long(n))
		tooMany := make([]rune, api.MaxText-n+1)
		for _, at := range notPlaces(n) {
			for _, l := range [][]rune{nil, {}, {'x'}, {-1}, tooMany} {
				if e := r.Insert(at, l); e != api.ErrArg {
					t.Errorf("Insert(%d) of %d runes into %d: %d", at, len(l), n, e)
				}
			}
		}
		for _, wrong := range wrongRunes() {
			for _, l := range [][]rune{{wrong}, {'x', wrong}, {wrong, 'x'}, append(slices.Clone(tooMany), wrong), append([]rune{wrong}, tooMany...)} {
				for _, at := range []int{0, n / 2, n} {
					if e := r.Insert(at, l); e != api.ErrArg {
						t.Errorf("Insert(%d) of %d runes with %x into %d: %d", at, len(l), wrong, n, e)
					}
				}
			}
		}
		hold(t, r, long(n))
	}
}

func TestDeleteFromShortTexts(t *testing.T) {
	shortTexts(5, func(l []rune) {
		for from := range len(l) + 1 {
			for to := from; to <= len(l); to++ {
				r := of(t, l)
				if e := r.Delete(from, to); e != api.OK {
					t.Fatalf("Delete(%d, %d) of %x: %d", from, to, l, e)
				}
				hold(t, r, slices.Delete(slices.Clone(l), from, to))
			}
		}
	})
}

// borders are places of a long text at its ends, and beside those of chunks.
func borders(n int) []int {
	var l []int
	for _, at := range []int{0, 1, longest - 1, longest, longest + 1, n/2 - 1, n / 2, n - longest, n - 1, n} {
		if 0 <= at && at <= n {
			l = append(l, at)
		}
	}
	slices.Sort(l)
	return slices.Compact(l)
}

func TestDeleteAndSliceAtEdges(t *testing.T) {
	for _, n := range sizes() {
		for _, from := range borders(n) {
			for _, to := range borders(n) {
				if from > to {
					continue
				}
				r := of(t, long(n))
				if got, e := r.Slice(from, to); e != api.OK || !slices.Equal(got, long(n)[from:to]) {
					t.Fatalf("Slice(%d, %d) of %d runes: %x, %d", from, to, n, got, e)
				}
				if e := r.Delete(from, to); e != api.OK {
					t.Fatalf("Delete(%d, %d) of %d runes: %d", from, to, n, e)
				}
				hold(t, r, slices.Delete(long(n), from, to))
				holdNodes(t, r)
			}
		}
	}
}

func TestDeleteAndSliceWithWrongArguments(t *testing.T) {
	for _, n := range sizes() {
		r := of(t, long(n))
		check := func(from, to int) {
			t.Helper()
			if e := r.Delete(from, to); e != api.ErrArg {
				t.Errorf("Delete(%d, %d) of %d runes: %d", from, to, n, e)
			}
			if l, e := r.Slice(from, to); len(l) != 0 || e != api.ErrArg {
				t.Errorf("Slice(%d, %d) of %d runes: %x, %d", from, to, n, l, e)
			}
		}
		for _, wrong := range notPlaces(n) {
			for _, at := range append(notPlaces(n), borders(n)...) {
				check(wrong, at)
				check(at, wrong)
			}
		}
		for i, to := range borders(n) {
			for _, from := range borders(n)[i+1:] {
				check(from, to)
			}
		}
		hold(t, r, long(n))
	}
}

func TestSliceOfShortTexts(t *testing.T) {
	shortTexts(5, func(l []rune) {
		r := of(t, l)
		for from := range len(l) + 1 {
			for to := from; to <= len(l); to++ {
				if got, e := r.Slice(from, to); e != api.OK || !slices.Equal(got, l[from:to]) {
					t.Fatalf("Slice(%d, %d) of %x: %x, %d", from, to, l, got, e)
				}
			}
		}
		hold(t, r, l)
	})
}

func TestEmptyRangesChangeNothing(t *testing.T) {
	for _, n := range sizes() {
		r := of(t, long(n))
		for _, at := range borders(n) {
			if e := r.Delete(at, at); e != api.OK {
				t.Errorf("Delete(%d, %d) of %d runes: %d", at, at, n, e)
			}
			if l, e := r.Slice(at, at); len(l) != 0 || e != api.OK {
				t.Errorf("Slice(%d, %d) of %d runes: %x, %d", at, at, n, l, e)
			}
			if e := r.Insert(at, nil); e != api.OK {
				t.Errorf("Insert(%d) of nothing into %d runes: %d", at, n, e)
			}
		}
		hold(t, r, long(n))
	}
}

// P3.3

func TestLinesOfAnExample(t *testing.T) {
	r := of(t, []rune("ab\nc"))
	for at, want := range []int{0, 0, 0, 1, 1} {
		if got, e := r.Line(at); got != want || e != api.OK {
			t.Errorf("Line(%d): %d, %d, want %d", at, got, e, want)
		}
	}
	for line, want := range []int{0, 3} {
		if got, e := r.Start(line); got != want || e != api.OK {
			t.Errorf("Start(%d): %d, %d, want %d", line, got, e, want)
		}
	}
}

func TestLinesSideBySide(t *testing.T) {
	r := of(t, []rune("\n\na\n\n"))
	for at, want := range []int{0, 1, 2, 2, 3, 4} {
		if got, e := r.Line(at); got != want || e != api.OK {
			t.Errorf("Line(%d): %d, %d, want %d", at, got, e, want)
		}
	}
	for line, want := range []int{0, 1, 2, 4, 5} {
		if got, e := r.Start(line); got != want || e != api.OK {
			t.Errorf("Start(%d): %d, %d, want %d", line, got, e, want)
		}
	}
}

func TestNewLinesAtTheEdgesOfChunks(t *testing.T) {
	for _, at := range []int{0, longest - 2, longest - 1, longest, longest + 1, 2*longest - 1, 2 * longest, 199} {
		l := slices.Repeat([]rune{'a'}, 200)
		l[at] = 10
		r := of(t, l)
		hold(t, r, l)
		if got, e := r.Start(1); got != at+1 || e != api.OK {
			t.Errorf("Start(1), new line at %d: %d, %d", at, got, e)
		}
	}
}

func TestBytesOfEachNumber(t *testing.T) {
	var all []rune
	for bytes, runes := range sizedRunes() {
		for _, x := range runes {
			r := of(t, []rune{x, 'b'})
			for at, want := range []int{0, bytes, bytes + 1} {
				if got, e := r.Bytes(at); got != want || e != api.OK {
					t.Errorf("Bytes(%d) behind %x: %d, %d, want %d", at, x, got, e, want)
				}
			}
			all = append(all, x)
		}
	}
	hold(t, of(t, all), all)
	for _, x := range []rune{'a', 0xE9, 0x20AC, 1114111} {
		r := of(t, slices.Repeat([]rune{x}, api.MaxText))
		if got, e := r.Bytes(api.MaxText); got != size(x)*api.MaxText || e != api.OK {
			t.Errorf("Bytes of a full text of %x: %d, %d", x, got, e)
		}
	}
}

func TestPlacesAndLinesThatAreNone(t *testing.T) {
	for _, n := range sizes() {
		r := of(t, long(n))
		for _, at := range notPlaces(n) {
			if got, e := r.Line(at); got != 0 || e != api.ErrArg {
				t.Errorf("Line(%d) of %d runes: %d, %d", at, n, got, e)
			}
			if got, e := r.Bytes(at); got != 0 || e != api.ErrArg {
				t.Errorf("Bytes(%d) of %d runes: %d, %d", at, n, got, e)
			}
		}
		lines := len(starts(long(n)))
		for _, line := range []int{math.MinInt, math.MinInt32, -lines, -1, lines, lines + 1, math.MaxInt32, math.MaxInt} {
			if got, e := r.Start(line); got != 0 || e != api.ErrArg {
				t.Errorf("Start(%d) of %d lines: %d, %d", line, lines, got, e)
			}
		}
		hold(t, r, long(n))
	}
}

// P3.4

func TestNilRope(t *testing.T) {
	var r *Rope
	hold(t, r, nil)
	for _, at := range append(notPlaces(0), 0) {
		for _, l := range [][]rune{nil, {}, {'a'}, {-1}, make([]rune, api.MaxText), make([]rune, api.MaxText+1)} {
			if e := r.Insert(at, l); e != api.ErrArg {
				t.Errorf("Insert(%d) of %d runes: %d", at, len(l), e)
			}
		}
		for _, to := range append(notPlaces(0), 0) {
			if e := r.Delete(at, to); e != api.ErrArg {
				t.Errorf("Delete(%d, %d): %d", at, to, e)
			}
		}
	}
	hold(t, r, nil)
}

func TestNilRopeWithWrongArguments(t *testing.T) {
	var r *Rope
	for _, at := range notPlaces(0) {
		if l, e := r.Slice(0, at); len(l) != 0 || e != api.ErrArg {
			t.Errorf("Slice(0, %d): %x, %d", at, l, e)
		}
		if l, e := r.Slice(at, 0); len(l) != 0 || e != api.ErrArg {
			t.Errorf("Slice(%d, 0): %x, %d", at, l, e)
		}
		if n, e := r.Line(at); n != 0 || e != api.ErrArg {
			t.Errorf("Line(%d): %d, %d", at, n, e)
		}
		if n, e := r.Start(at); n != 0 || e != api.ErrArg {
			t.Errorf("Start(%d): %d, %d", at, n, e)
		}
		if n, e := r.Bytes(at); n != 0 || e != api.ErrArg {
			t.Errorf("Bytes(%d): %d, %d", at, n, e)
		}
	}
}

func TestEmptyRopeTakesEdits(t *testing.T) {
	r := of(t, nil)
	if e := r.Delete(0, 0); e != api.OK {
		t.Errorf("Delete(0, 0): %d", e)
	}
	if e := r.Insert(0, []rune("a\n")); e != api.OK {
		t.Errorf("Insert: %d", e)
	}
	hold(t, r, []rune("a\n"))
	if e := r.Delete(0, 2); e != api.OK {
		t.Errorf("Delete(0, 2): %d", e)
	}
	hold(t, r, nil)
}

// P3.5

func TestInsertedAndDeleted(t *testing.T) {
	for _, n := range sizes() {
		for _, m := range []int{0, 1, longest - 1, longest, longest + 1, api.MaxText - n} {
			for _, at := range borders(n) {
				if n+m > api.MaxText {
					continue
				}
				r := of(t, long(n))
				if r.Insert(at, slices.Repeat([]rune{10}, m)) != api.OK || r.Delete(at, at+m) != api.OK {
					t.Fatalf("%d runes at %d of %d", m, at, n)
				}
				hold(t, r, long(n))
			}
		}
	}
}

func TestStartOfALineIsOnThatLine(t *testing.T) {
	check := func(l []rune) {
		r := of(t, l)
		for line := range r.Lines() {
			at, e := r.Start(line)
			if e != api.OK {
				t.Fatalf("Start(%d) of %x: %d", line, l, e)
			}
			if got, e := r.Line(at); got != line || e != api.OK {
				t.Fatalf("Line(Start(%d)) of %x: %d, %d", line, l, got, e)
			}
			if at == 0 {
				continue
			}
			if got, _ := r.Line(at - 1); got != line-1 {
				t.Fatalf("the place before the start of line %d of %x is on line %d", line, l, got)
			}
		}
	}
	shortTexts(6, check)
	for _, n := range sizes() {
		check(long(n))
		check(slices.Repeat([]rune{10}, n))
	}
}

// All promises together, edit after edit

// numbers returns a function that yields the same numbers in each run.
func numbers() func(below int) int {
	state := uint32(1)
	return func(below int) int {
		state = state*1664525 + 1013904223
		return int(state>>8) % below
	}
}

func TestManyEditsAgainstAList(t *testing.T) {
	next := numbers()
	for _, longestInsertion := range []int{2, 9, 70, 500} {
		r, want := of(t, nil), []rune{}
		for step := range 1500 {
			if next(8) < 5 {
				at, l := next(len(want)+1), make([]rune, next(longestInsertion)+1)
				for i := range l {
					l[i] = []rune{10, 'a', 0xE9, 0x20AC, 0x1F600, rune(0x1000 + step)}[next(6)]
				}
				e := r.Insert(at, l)
				if len(want)+len(l) > api.MaxText {
					if e != api.ErrFull {
						t.Fatalf("step %d: Insert: %d, want ErrFull", step, e)
					}
				} else if want = slices.Insert(want, at, l...); e != api.OK {
					t.Fatalf("step %d: Insert: %d", step, e)
				}
			} else {
				from := next(len(want) + 1)
				to := min(len(want), from+next(longestInsertion+1))
				if e := r.Delete(from, to); e != api.OK {
					t.Fatalf("step %d: Delete: %d", step, e)
				}
				want = slices.Delete(want, from, to)
			}
			holdNodes(t, r)
			holdSome(t, r, want, next)
		}
		hold(t, r, want)
	}
}

// holdSome holds what a rope tells at a few places against a text.
func holdSome(t *testing.T, r *Rope, want []rune, next func(below int) int) {
	t.Helper()
	at := next(len(want) + 1)
	to := at + next(len(want)+1-at)
	if got, e := r.Slice(at, to); e != api.OK || !slices.Equal(got, want[at:to]) {
		t.Fatalf("Slice(%d, %d): %x, %d, want %x", at, to, got, e, want[at:to])
	}
	if got, _ := r.Slice(0, r.Len()); !slices.Equal(got, want) {
		t.Fatalf("Slice: %x, want %x", got, want)
	}
	if got, e := r.Line(at); got != lineOf(want, at) || e != api.OK {
		t.Fatalf("Line(%d): %d, %d, want %d", at, got, e, lineOf(want, at))
	}
	if got, e := r.Bytes(at); got != bytesOf(want, at) || e != api.OK {
		t.Fatalf("Bytes(%d): %d, %d, want %d", at, got, e, bytesOf(want, at))
	}
	begins := starts(want)
	line := next(len(begins))
	if got, e := r.Start(line); r.Lines() != len(begins) || got != begins[line] || e != api.OK {
		t.Fatalf("Lines: %d, want %d; Start(%d): %d, %d, want %d", r.Lines(), len(begins), line, got, e, begins[line])
	}
}

func TestTypedRuneByRune(t *testing.T) {
	// From the last rune on, each is inserted before all others.
	forward, backward := of(t, nil), of(t, nil)
	text := long(api.MaxText)
	for i := range text {
		if forward.Insert(i, text[i:i+1]) != api.OK || backward.Insert(0, text[len(text)-1-i:len(text)-i]) != api.OK {
			t.Fatalf("rune %d", i)
		}
		holdNodes(t, forward)
		holdNodes(t, backward)
	}
	hold(t, forward, text)
	hold(t, backward, text)
	for i := len(text); i > 0; i-- {
		if forward.Delete(i-1, i) != api.OK || backward.Delete(0, 1) != api.OK {
			t.Fatalf("rune %d", i)
		}
	}
	hold(t, forward, nil)
	hold(t, backward, nil)
}

// The chapter's Ways

func TestAppendedChunksDoNotOverwriteOthers(t *testing.T) {
	// The two parts of a chunk share an array: what is inserted between them
	// is appended to the first one, and must leave the second one alone.
	for at := range longest + 1 {
		for m := range longest {
			text := long(longest)
			r := of(t, text)
			nodes := slices.Clone(r.nodes)
			if e := r.Insert(at, slices.Repeat([]rune{'x'}, m)); e != api.OK {
				t.Fatalf("Insert(%d) of %d runes: %d", at, m, e)
			}
			got, _ := r.Slice(0, r.Len())
			if want := slices.Insert(slices.Clone(text), at, slices.Repeat([]rune{'x'}, m)...); !slices.Equal(got, want) {
				t.Fatalf("Insert(%d) of %d runes: %x, want %x", at, m, got, want)
			}
			if !slices.Equal(nodes[0].chunk, text) {
				t.Fatalf("Insert(%d) of %d runes changed a chunk: %x", at, m, nodes[0].chunk)
			}
		}
	}
}

func TestAppendedNodesDoNotOverwriteOthers(t *testing.T) {
	nodes := chop(long(3 * longest))
	for at := range 3*longest + 1 {
		before, after := split(nodes, at)
		if count(before).runes != at || count(after).runes != 3*longest-at {
			t.Fatalf("split at %d: %d and %d runes", at, count(before).runes, count(after).runes)
		}
		joined := &Rope{nodes: join(before, after)}
		hold(t, joined, long(3*longest))
		hold(t, &Rope{nodes: nodes}, long(3*longest))
	}
}

// P0, R1 to R5

func TestArgumentsAreNeitherChangedNorKept(t *testing.T) {
	for _, n := range []int{3, longest, longest + 1, 500} {
		l, more := long(n), slices.Repeat([]rune{'x'}, n)
		r := of(t, l)
		if e := r.Insert(1, more); e != api.OK {
			t.Fatalf("Insert: %d", e)
		}
		if !slices.Equal(l, long(n)) || !slices.Equal(more, slices.Repeat([]rune{'x'}, n)) {
			t.Errorf("Of or Insert changed its argument: %x, %x", l, more)
		}
		want := slices.Insert(long(n), 1, more...)
		clear(l)
		clear(more)
		hold(t, r, want)
	}
}

func TestRunesBeyondTheLengthStay(t *testing.T) {
	room := []rune("abcdef")
	r := of(t, room[:2])
	if r.Insert(2, room[3:4]) != api.OK || r.Insert(3, []rune("xyz")) != api.OK {
		t.Fatal("Insert")
	}
	hold(t, r, []rune("abdxyz"))
	if string(room) != "abcdef" {
		t.Errorf("what is behind an argument was changed: %q", string(room))
	}
}

func TestSlicesAreNewMemory(t *testing.T) {
	for _, n := range []int{3, longest, longest + 1, 500} {
		r := of(t, long(n))
		for _, to := range []int{1, n / 2, n} {
			l, _ := r.Slice(0, to)
			other, _ := r.Slice(0, to)
			clear(l)
			_ = append(l, 'x', 'y')
			hold(t, r, long(n))
			if !slices.Equal(other, long(n)[:to]) {
				t.Errorf("two slices up to %d share memory: %x", to, other)
			}
			if e := r.Delete(0, to); e != api.OK || !slices.Equal(other, long(n)[:to]) {
				t.Errorf("Delete changed what Slice returned: %d, %x", e, other)
			}
			if e := r.Insert(0, other); e != api.OK {
				t.Errorf("Insert: %d", e)
			}
			hold(t, r, long(n))
		}
	}
}

func TestRopesDoNotShare(t *testing.T) {
	l := long(100)
	one, two := of(t, l), of(t, l)
	if one.Insert(50, []rune{'x'}) != api.OK || one.Delete(0, 9) != api.OK {
		t.Fatal("Insert, Delete")
	}
	hold(t, two, l)
	part, _ := two.Slice(20, 60)
	three := of(t, part)
	if three.Insert(5, []rune{'y'}) != api.OK || three.Delete(0, 3) != api.OK {
		t.Fatal("Insert, Delete")
	}
	hold(t, two, l)
}

func TestResultsHangOnWhatWasDoneAlone(t *testing.T) {
	r := of(t, long(300))
	for range 3 {
		hold(t, r, long(300))
		if r.Insert(-1, nil) != api.ErrArg || r.Insert(0, make([]rune, api.MaxText)) != api.ErrFull || r.Delete(2, 1) != api.ErrArg {
			t.Fatal("an error is missing")
		}
		if _, e := r.Slice(0, 301); e != api.ErrArg {
			t.Fatalf("Slice: %d", e)
		}
	}
}
