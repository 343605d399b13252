package render

import (
	"math"
	"slices"
	"testing"

	"stylus/api"
	"stylus/width"
)

// Below, what a screen shows is told by the chapter's words alone: the rows of
// the whole text are written, and those that are shown are cut out.

// wordsTaken tells the columns that a rune other than 10 takes.
func wordsTaken(r rune, columns int) int {
	w := width.Of(r)
	if w > 0 && columns == 1 {
		return 1
	}
	return w
}

func wordsPlaces(t []rune, columns int) []api.Span {
	if columns < 1 || columns > 60 {
		return nil
	}
	var l []api.Span
	row, column := 0, 0
	place := func(needed int) {
		if columns-column < needed {
			row, column = row+1, 0
		}
		l = append(l, api.Span{From: row, To: column})
	}
	for _, r := range t {
		switch {
		case r == 10:
			place(1)
			row, column = row+1, 0
		case wordsTaken(r, columns) == 0:
			place(1)
		default:
			place(wordsTaken(r, columns))
			column += wordsTaken(r, columns)
		}
	}
	place(1)
	return l
}

// wordsRight tells whether a view, and a number of rows and columns, are permitted.
func wordsRight(v View, rows, columns int) bool {
	if rows <= 0 || rows >= 61 || columns <= 0 || columns >= 61 || len(v.Sels) == 0 {
		return false
	}
	n := len(v.Text)
	for _, s := range v.Sels {
		if s.Anchor < 0 || s.Anchor > n || s.Head < 0 || s.Head > n {
			return false
		}
	}
	for _, s := range v.Spans {
		if s.From < 0 || s.From > n || s.To < 0 || s.To > n || s.From > s.To {
			return false
		}
	}
	return true
}

// wordsStyle tells the style that a cell has by place i, which has it.
func wordsStyle(v View, at []api.Span, i int) int {
	in, field, caret := 0, 0, 0
	for _, s := range v.Sels {
		if s.Anchor <= i && i < s.Head || s.Head <= i && i < s.Anchor {
			in = 1
		}
		if at[s.Head].From == at[i].From && at[s.Head].To == at[i].To {
			caret = 4
		}
	}
	for _, s := range v.Spans {
		if s.From <= i && i < s.To {
			field = 2
		}
	}
	return in + field + caret
}

// wordsRune tells how a rune that takes n columns is shown.
func wordsRune(r rune, n int) rune {
	switch {
	case r < 32, r > 126 && r < 160, width.Of(r) == 2 && n == 1:
		return 63
	}
	return r
}

// wordsAll tells the cells of all rows that a text has, and of some more: of
// each cell the styles of all places with its row and column, then the runes.
func wordsAll(v View, at []api.Span, columns, more int) [][]Cell {
	all := make([][]Cell, at[len(v.Text)].From+1+more)
	for i := range all {
		all[i] = slices.Repeat([]Cell{{Rune: 32}}, columns)
	}
	for i, p := range at {
		all[p.From][p.To].Style |= wordsStyle(v, at, i)
	}
	for i, r := range v.Text {
		cells := all[at[i].From][at[i].To:]
		if n := wordsTaken(r, columns); r != 10 && n > 0 {
			cells[0].Rune = wordsRune(r, n)
			if n == 2 {
				cells[1] = Cell{Style: cells[0].Style}
			}
		}
	}
	return all
}

func wordsShow(v View, rows, columns int) (Grid, api.Errno) {
	if !wordsRight(v, rows, columns) {
		return Grid{}, 1
	}
	at := wordsPlaces(v.Text, columns)
	all := wordsAll(v, at, columns, rows)
	last := rows - 1
	if primary := at[v.Sels[0].Head].From; primary >= rows {
		last = primary
	}
	return Grid{Rows: rows, Columns: columns, Cells: slices.Concat(all[last-rows+1 : last+1]...)}, 0
}

func same(a, b Grid) bool {
	return a.Rows == b.Rows && a.Columns == b.Columns && slices.Equal(a.Cells, b.Cells)
}

// holdShow holds Show by the chapter's words, and P22.3.
func holdShow(t *testing.T, v View, rows, columns int) {
	t.Helper()
	got, e := Show(v, rows, columns)
	want, f := wordsShow(v, rows, columns)
	if e != f || !same(got, want) {
		t.Fatalf("Show(%v, %d, %d): %v, %d, want %v, %d", v, rows, columns, got, e, want, f)
	}
	if e == api.OK {
		holdFollows(t, v, got)
	}
}

// holdFollows holds P22.3.
func holdFollows(t *testing.T, v View, g Grid) {
	t.Helper()
	for i, c := range g.Cells {
		second := i%g.Columns > 0 && width.Of(g.Cells[i-1].Rune) == 2
		if second != (c.Rune == 0) || second && c.Style != g.Cells[i-1].Style {
			t.Fatalf("%v: cell %d of %v", v, i, g)
		}
		if c.Rune != 0 && c.Rune < 32 || c.Style < 0 || c.Style > 7 {
			t.Fatalf("%v: cell %d of %v", v, i, g)
		}
	}
	primary := wordsPlaces(v.Text, g.Columns)[v.Sels[0].Head]
	row := min(primary.From, g.Rows-1)
	if g.Cells[row*g.Columns+primary.To].Style&4 == 0 {
		t.Fatalf("%v: the primary caret is not on %v", v, g)
	}
}

// texts calls f for all texts of at most so many of some runes.
func texts(runes string, longest int, f func(text []rune)) {
	var grow func(text []rune)
	grow = func(text []rune) {
		f(text)
		if len(text) == longest {
			return
		}
		for _, r := range runes {
			grow(append(slices.Clone(text), r))
		}
	}
	grow(nil)
}

// everySel returns all selections of a text of n runes.
func everySel(n int) []api.Sel {
	var l []api.Sel
	for anchor := range n + 1 {
		for head := range n + 1 {
			l = append(l, api.Sel{Anchor: anchor, Head: head})
		}
	}
	return l
}

// everySpan returns all spans of a text of n runes.
func everySpan(n int) []api.Span {
	var l []api.Span
	for _, s := range everySel(n) {
		if s.Anchor <= s.Head {
			l = append(l, api.Span{From: s.Anchor, To: s.Head})
		}
	}
	return l
}

// wide is 2^32, or 0 where numbers have 32 bits.
func wide() int {
	one := 1
	return one << 32
}

// wrongSides returns numbers of rows and columns that no grid has.
func wrongSides() []int {
	l := []int{
		math.MinInt, math.MinInt + 1, math.MinInt + 5, math.MinInt + 60, math.MaxInt, math.MaxInt - 1, math.MaxInt - 59,
		math.MinInt32, math.MinInt32 + 1, math.MinInt32 + 7, math.MaxInt32, math.MaxInt32 - 1,
		-100000, -65536 - 5, -65535, -257, -256, -255, -128, -100, 100, 127, 128, 129, 255, 256, 257, 261, 1000, 65535, 65536, 65537, 65541, 100000, 1 << 24, 1<<24 + 5,
	}
	if wide() != 0 {
		l = append(l, wide(), wide()+1, wide()+5, wide()+60, -wide(), -wide()+1, -wide()+5, wide()/2, wide()/2+5)
	}
	for n := -70; n <= 0; n++ {
		l = append(l, n)
	}
	for n := 61; n < 200; n++ {
		l = append(l, n)
	}
	return l
}

// lot draws numbers, the same ones in each run.
type lot uint64

func (l *lot) draw(n int) int {
	*l = *l*6364136223846793005 + 1442695040888963407
	return int(uint64(*l) >> 33 % uint64(n))
}

// drawnRunes has those that are drawn, ordinary ones more than once.
var drawnRunes = []rune{
	'a', 'b', 'c', 'd', 'e', 'z', 'A', 'Z', '0', '9', ' ', ' ', '_', '~', '?', 0xE9, 0x20AC,
	'中', '中', '文', 0x1100, 0x3042, 0xAC01, 0xFF21, 0x1F600, 0x20000, 0x3FFFD,
	0x301, 0x301, 0x300, 0x36F, 0x200B, 0x200F, 0xFE00, 0xFE0F,
	10, 10, 10, 0, 1, 9, 11, 13, 27, 31, 32, 33, 126, 127, 128, 133, 159, 160, 0xFFFC, 0xFFFD,
	-1, -10, 0xD7FF, 0xD800, 0xDFFF, 0xE000, 0x10FFFF, 0x110000, math.MinInt32, math.MaxInt32,
}

// text draws n runes: all of some number of kinds.
func (l *lot) text(n int) []rune {
	kinds := make([]rune, 1+l.draw(9))
	for i := range kinds {
		kinds[i] = drawnRunes[l.draw(len(drawnRunes))]
	}
	t := make([]rune, n)
	for i := range t {
		t[i] = kinds[l.draw(len(kinds))]
	}
	return t
}

// sels draws up to 16 selections of a text of n runes, at least one.
func (l *lot) sels(n int) []api.Sel {
	all := make([]api.Sel, 1+l.draw(1+l.draw(16)))
	for i := range all {
		all[i].Head = l.draw(n + 1)
		all[i].Anchor = all[i].Head
		switch l.draw(4) {
		case 0:
			all[i].Anchor = l.draw(n + 1)
		case 1:
			all[i].Anchor = max(0, all[i].Head-l.draw(5))
		case 2:
			all[i].Anchor = min(n, all[i].Head+l.draw(5))
		}
	}
	return all
}

// spans draws up to 60 spans of a text of n runes.
func (l *lot) spans(n int) []api.Span {
	all := make([]api.Span, l.draw(1+l.draw(60)))
	for i := range all {
		all[i].From = l.draw(n + 1)
		all[i].To = min(n, all[i].From+l.draw(8))
	}
	return all
}

func (l *lot) view(n int) View {
	return View{Text: l.text(n), Sels: l.sels(n), Spans: l.spans(n)}
}

// P22.2, P22.3

// Of all texts of up to 3 runes: each selection and each span together.
func TestAllShortTexts(t *testing.T) {
	texts("a中\u0301\n", 3, func(text []rune) {
		for _, s := range everySel(len(text)) {
			for _, span := range everySpan(len(text)) {
				v := View{Text: text, Sels: []api.Sel{s}, Spans: []api.Span{span}}
				for rows := 1; rows <= 3; rows++ {
					for columns := 1; columns <= 4; columns++ {
						holdShow(t, v, rows, columns)
					}
				}
			}
		}
	})
}

// Of all texts of up to 2 runes: all pairs of selections, and of spans.
func TestAllPairsInShortTexts(t *testing.T) {
	texts("a中\u0301\n", 2, func(text []rune) {
		for _, a := range everySel(len(text)) {
			for _, b := range everySel(len(text)) {
				for _, c := range everySpan(len(text)) {
					for _, d := range everySpan(len(text)) {
						v := View{Text: text, Sels: []api.Sel{a, b}, Spans: []api.Span{c, d}}
						for rows := 1; rows <= 3; rows++ {
							for columns := 1; columns <= 3; columns++ {
								holdShow(t, v, rows, columns)
							}
						}
					}
				}
			}
		}
	})
}

// Of all texts of up to 6 runes: each caret, with one span.
func TestAllCaretsInShortTexts(t *testing.T) {
	texts("a中\u0301\n", 6, func(text []rune) {
		n := len(text)
		for head := range n + 1 {
			v := View{Text: text, Sels: []api.Sel{{Anchor: n / 2, Head: head}}, Spans: []api.Span{{From: n / 3, To: n - n/3}}}
			for _, side := range [][2]int{{1, 1}, {1, 2}, {2, 2}, {2, 3}, {3, 2}, {7, 4}} {
				holdShow(t, v, side[0], side[1])
			}
		}
	})
}

func TestDrawnViews(t *testing.T) {
	l := lot(5)
	for range 12000 {
		holdShow(t, l.view(l.draw(1+l.draw(60))), 1+l.draw(9), 1+l.draw(9))
	}
	for range 2500 {
		holdShow(t, l.view(l.draw(1+l.draw(400))), 1+l.draw(60), 1+l.draw(60))
	}
}

// Each grid that there is.
func TestAllGrids(t *testing.T) {
	l := lot(60)
	for rows := 1; rows <= 60; rows++ {
		for columns := 1; columns <= 60; columns++ {
			holdShow(t, l.view(l.draw(120)), rows, columns)
		}
	}
}

// Each place of a long text, so that each number of rows is above what is shown.
func TestEachPrimaryCaret(t *testing.T) {
	l := lot(61)
	for _, side := range [][2]int{{1, 1}, {1, 60}, {60, 1}, {2, 3}, {7, 5}, {60, 60}} {
		text := l.text(300)
		for head := range len(text) + 1 {
			v := View{Text: text, Sels: append([]api.Sel{{Anchor: head, Head: head}}, l.sels(300)...), Spans: l.spans(300)}
			holdShow(t, v, side[0], side[1])
		}
	}
}
