package editor

import (
	"math"
	"slices"
	"strings"
	"testing"

	"stylus/api"
	"stylus/expand"
	"stylus/keymap"
	"stylus/keys"
	"stylus/motion"
	"stylus/multi"
	"stylus/render"
	"stylus/sels"
	"stylus/session"
	"stylus/snippet"
	"stylus/transform"
	"stylus/vt"
)

// The chapter's words, one by one: a second way to what an editor does. All states
// are there as they are, each with its session as a whole.

// moment is a state.
type moment struct {
	text []rune
	sels []api.Sel
	x    *session.State // nil: no session is open
}

// wordsName is an abbreviation.
type wordsName struct {
	name, text string
	parts      []snippet.Node
}

type words struct {
	rows, columns int
	shown         render.Grid
	keymap        *keymap.Map

	earlier, later []moment
	now            moment
	run            bool

	names  []wordsName
	values []expand.Value

	ring  []string
	place int
	draft string

	killed []rune
	line   []rune
	lines  int
	code   int
}

func newWords(rows, columns int) *words {
	return &words{rows: rows, columns: columns, keymap: keymap.New(), now: moment{sels: carets(0)}}
}

// carets returns selections that are but carets.
func carets(places ...int) []api.Sel {
	var l []api.Sel
	for _, p := range places {
		l = append(l, api.Sel{Anchor: p, Head: p})
	}
	return l
}

func wordsValid(l []rune) bool {
	for _, r := range l {
		if r < 0 || r > 1114111 || r >= 55296 && r <= 57343 {
			return false
		}
	}
	return true
}

func (w *words) name(name, text []rune) api.Errno {
	if !wordsValid(text) {
		return 1
	}
	if len(name) < 1 || len(name) > 20 || !wordsValid(name) || strings.ContainsAny(string(name), " \t\n") {
		return 1
	}
	parts, _, e := snippet.Parse(text)
	if e != 0 {
		return e
	}
	others := slices.DeleteFunc(slices.Clone(w.names), func(n wordsName) bool { return n.name == string(name) })
	if len(others) >= 20 {
		return 3
	}
	w.names = append(others, wordsName{string(name), string(text), parts})
	return 0
}

func (w *words) value(name, text []rune) api.Errno {
	if !wordsValid(text) {
		return 1
	}
	if len(w.values) >= 20 {
		return 3
	}
	w.values = append([]expand.Value{{Name: slices.Clone(name), Text: slices.Clone(text)}}, w.values...)
	return 0
}

// change makes a change of a kind: Step is 1, Typed is 2, Moved is 3.
func (w *words) change(kind int, m moment) {
	if kind == 1 || kind == 2 && !w.run {
		w.earlier = append(slices.Clip(w.earlier), w.now)
		if len(w.earlier) > 50 {
			w.earlier = w.earlier[1:]
		}
	}
	if kind == 1 || kind == 2 {
		w.later = nil
	}
	w.run = kind == 2
	w.now = m
}

func (w *words) do(k keys.Key) int {
	w.code = int(w.execute(w.keymap.Find(k), k.Rune))
	return w.code
}

func (w *words) execute(command int, r rune) api.Errno {
	switch command {
	case 1:
		return w.edit(1, []rune{r}, 2)
	case 2:
		return w.edit(1, []rune{'\n'}, 1)
	case 51, 52, 53, 54, 55:
		return w.edit(command-49, nil, 1)
	case 56:
		if len(w.killed) == 0 {
			return 4
		}
		return w.edit(1, w.killed, 1)
	case 61, 62:
		return w.travel(command == 61)
	case 71:
		if w.now.x != nil {
			return w.goOn()
		}
		return w.begin()
	case 72:
		return w.goBack()
	case 73, 74:
		return w.cycle(command == 74)
	case 81:
		return w.addCaret(7, 0)
	case 82:
		return w.addCaret(8, len(w.now.sels)-1)
	case 83:
		if w.now.x != nil {
			w.change(3, moment{w.now.text, w.now.sels, nil})
		} else {
			w.change(3, moment{w.now.text, carets(w.now.sels[0].Head), nil})
		}
	case 91, 93:
		return w.older(command == 93)
	case 92:
		return w.newer()
	case 3:
		w.accept()
	case 4:
		w.abort()
	default:
		if command > 30 && command <= 40 {
			w.change(3, moment{w.now.text, motion.All(command-30, w.now.text, w.now.sels, true), w.now.x})
		} else if command > 10 && command <= 20 {
			w.change(3, moment{w.now.text, motion.All(command-10, w.now.text, w.now.sels, false), w.now.x})
		}
	}
	return 0
}

func wordsApply(t []rune, e api.Edit) []rune {
	return []rune(string(t[:e.At]) + string(e.Ins) + string(t[e.At+e.Del:]))
}

// wordsPlace moves a place by an edit, low or high.
func wordsPlace(p int, e api.Edit, high bool) int {
	switch {
	case p < e.At:
		return p
	case p > e.At+e.Del:
		return p + len(e.Ins) - e.Del
	case high:
		return e.At + len(e.Ins)
	}
	return e.At
}

func (w *words) edit(kind int, ins []rune, change int) api.Errno {
	var m moment
	var killed []rune
	var done bool
	var e api.Errno
	if w.now.x == nil {
		m, killed, done, e = w.editSels(kind, ins)
	} else {
		m, killed, done, e = w.editFields(kind, ins)
	}
	if e != 0 || !done {
		return e
	}
	if (kind == 4 || kind == 5) && len(killed) > 0 {
		w.killed = killed
	}
	w.change(change, m)
	w.place = len(w.ring)
	return 0
}

// editSels edits from the last selection to the first one.
func (w *words) editSels(kind int, ins []rune) (m moment, killed []rune, done bool, err api.Errno) {
	t := w.now.text
	var places []int
	for i := len(w.now.sels) - 1; i >= 0; i-- {
		e, at, _ := multi.At(kind, t, w.now.sels[i], ins)
		killed = []rune(string(t[e.At:e.At+e.Del]) + string(killed))
		t = wordsApply(t, e)
		if len(t) > 2000 {
			return m, nil, false, 3
		}
		for k := range places {
			places[k] = wordsPlace(places[k], e, false)
		}
		places = append(places, at)
	}
	m = moment{t, sels.Normal(carets(places...), len(t)), nil}
	return m, killed, string(t) != string(w.now.text) || !slices.Equal(m.sels, w.now.sels), 0
}

// forward is editSels from the first selection to the last one, each one moved by
// the edits before it.
func (w *words) forward(kind int, ins []rune) moment {
	t := w.now.text
	l := slices.Clone(w.now.sels)
	for i := range l {
		e, at, _ := multi.At(kind, t, l[i], ins)
		t = wordsApply(t, e)
		for k := range l {
			l[k].Anchor, l[k].Head = wordsPlace(l[k].Anchor, e, false), wordsPlace(l[k].Head, e, false)
		}
		l[i] = api.Sel{Anchor: at, Head: at}
	}
	return moment{t, sels.Normal(l, len(t)), nil}
}

func (w *words) editFields(kind int, ins []rune) (m moment, killed []rune, done bool, err api.Errno) {
	x := *w.now.x
	e, at, _ := multi.At(kind, w.now.text, w.now.sels[0], ins)
	if e.Del == 0 && len(e.Ins) == 0 {
		return m, nil, false, 0
	}
	y, err := session.Edit(x, []api.Edit{e})
	if err != 0 {
		return m, nil, false, err
	}
	before := wordsSpan(x)
	from, to := wordsPlace(before.From, e, false), wordsPlace(before.To, e, true)
	if from <= at && at <= to && len(y.Fields) > 0 {
		after := wordsSpan(y)
		at = after.From + (at - from)
		if at > after.To {
			at = after.To
		}
	} else if at > len(y.Text) {
		at = len(y.Text)
	}
	return moment{y.Text, carets(at), wordsOpen(y)}, w.now.text[e.At : e.At+e.Del], true, 0
}

// wordsOpen returns a session, unless it has no fields.
func wordsOpen(x session.State) *session.State {
	if len(x.Fields) == 0 {
		return nil
	}
	return &x
}

// wordsSpan returns the span of the primary of the active number; that of a caret at
// 0 if there is none.
func wordsSpan(x session.State) api.Span {
	for _, f := range x.Fields {
		if f.Primary && f.N == x.Active {
			return f.Span
		}
	}
	return api.Span{}
}

func wordsSelected(x session.State) []api.Sel {
	s := wordsSpan(x)
	return []api.Sel{{Anchor: s.From, Head: s.To}}
}

func (w *words) travel(back bool) api.Errno {
	if back {
		if len(w.earlier) == 0 {
			return 4
		}
		last := len(w.earlier) - 1
		w.later = append([]moment{w.now}, w.later...)
		w.now = w.earlier[last]
		w.earlier = w.earlier[:last]
	} else {
		if len(w.later) == 0 {
			return 4
		}
		w.earlier = append(slices.Clip(w.earlier), w.now)
		w.now = w.later[0]
		w.later = w.later[1:]
	}
	w.run = false
	w.place = len(w.ring)
	return 0
}

// wordsNumbers returns the order of numbers.
func wordsNumbers(x session.State) []int {
	rank := func(n int) int {
		if n == 0 {
			return math.MaxInt
		}
		return n
	}
	var l []int
	for _, f := range x.Fields {
		if !slices.Contains(l, f.N) {
			l = append(l, f.N)
		}
	}
	slices.SortFunc(l, func(a, b int) int {
		if rank(a) < rank(b) {
			return -1
		}
		return 1
	})
	return l
}

func (w *words) goOn() api.Errno {
	x := *w.now.x
	l := wordsNumbers(x)
	i := slices.Index(l, x.Active)
	if i < 0 || i+1 == len(l) {
		w.change(3, moment{w.now.text, w.now.sels, nil})
		return 0
	}
	x.Active = l[i+1]
	m := moment{w.now.text, wordsSelected(x), &x}
	if x.Active == 0 {
		m.x = nil
	}
	w.change(3, m)
	return 0
}

func (w *words) goBack() api.Errno {
	if w.now.x == nil {
		return 4
	}
	x := *w.now.x
	l := wordsNumbers(x)
	i := slices.Index(l, x.Active)
	if i <= 0 {
		return 4
	}
	x.Active = l[i-1]
	w.change(3, moment{w.now.text, wordsSelected(x), &x})
	return 0
}

func (w *words) cycle(back bool) api.Errno {
	if w.now.x == nil {
		return 4
	}
	y, e := session.Cycle(*w.now.x, back)
	if e != 0 {
		return e
	}
	w.change(1, moment{y.Text, wordsSelected(y), wordsOpen(y)})
	w.place = len(w.ring)
	return 0
}

func wordsWord(r rune) bool {
	return r >= 'A' && r <= 'Z' || r >= 'a' && r <= 'z' || r >= '0' && r <= '9' || r == '_' || r >= 128
}

// ahead returns the abbreviation before a place.
func (w *words) ahead(t []rune, at int) (wordsName, bool) {
	var best wordsName
	is := false
	for _, n := range w.names {
		l := []rune(n.name)
		from := at - len(l)
		if from < 0 || string(t[from:at]) != n.name {
			continue
		}
		if from > 0 && wordsWord(l[0]) && wordsWord(t[from-1]) {
			continue
		}
		if !is || len(l) > len([]rune(best.name)) {
			best, is = n, true
		}
	}
	return best, is
}

func (w *words) begin() api.Errno {
	if len(w.now.sels) != 1 {
		return 4
	}
	at := w.now.sels[0].Head
	if at != w.now.sels[0].Anchor {
		return 4
	}
	n, is := w.ahead(w.now.text, at)
	if !is {
		return 4
	}
	x, e := session.Begin(w.now.text, api.Span{From: at - len([]rune(n.name)), To: at}, n.parts, w.values)
	if e != 0 {
		return e
	}
	m := moment{x.Text, wordsSelected(x), &x}
	if x.Active == 0 {
		m.x = nil
	}
	w.change(1, m)
	w.place = len(w.ring)
	return 0
}

func (w *words) addCaret(kind, i int) api.Errno {
	if w.now.x != nil {
		return 4
	}
	head := w.now.sels[i].Head
	to := motion.Move(kind, w.now.text, head)
	if to == head {
		return 4
	}
	l, e := sels.Add(w.now.sels, api.Sel{Anchor: to, Head: to}, len(w.now.text))
	if e != 0 {
		return e
	}
	w.change(3, moment{w.now.text, l, nil})
	return 0
}

func (w *words) show(line string, place int) {
	t := []rune(line)
	w.change(1, moment{t, carets(len(t)), nil})
	w.place = place
}

func (w *words) older(part bool) api.Errno {
	if w.place == len(w.ring) {
		w.draft = string(w.now.text)
	}
	for i := w.place - 1; i >= 0; i-- {
		if part && strings.Contains(w.ring[i], w.draft) || !part && strings.HasPrefix(w.ring[i], w.draft) {
			w.show(w.ring[i], i)
			return 0
		}
	}
	return 4
}

func (w *words) newer() api.Errno {
	if w.place == len(w.ring) {
		return 4
	}
	for i := w.place + 1; i < len(w.ring); i++ {
		if strings.HasPrefix(w.ring[i], w.draft) {
			w.show(w.ring[i], i)
			return 0
		}
	}
	w.show(w.draft, len(w.ring))
	return 0
}

func (w *words) accept() {
	w.line = w.now.text
	w.lines++
	if line := string(w.line); line != "" {
		w.ring = append(slices.DeleteFunc(slices.Clone(w.ring), func(s string) bool { return s == line }), line)
		if len(w.ring) > 30 {
			w.ring = w.ring[1:]
		}
	}
	w.abort()
}

func (w *words) abort() {
	w.earlier, w.later, w.now, w.run = nil, nil, moment{sels: carets(0)}, false
	w.place = len(w.ring)
	w.draft = ""
}

// spans returns those of the fields of the open session.
func (w *words) spans() []api.Span {
	var l []api.Span
	if w.now.x != nil {
		for _, f := range w.now.x.Fields {
			l = append(l, f.Span)
		}
	}
	return l
}

// grid returns what is to be shown.
func (w *words) grid() render.Grid {
	g, _ := render.Show(render.View{Text: w.now.text, Sels: w.now.sels, Spans: w.spans()}, w.rows, w.columns)
	return g
}

func (w *words) paint() []byte {
	g := w.grid()
	b, _ := vt.Paint(w.shown, g)
	w.shown = g
	return b
}

func (w *words) see() Seen {
	return Seen{w.now.text, w.now.sels, w.spans(), w.line, w.lines, w.code}
}

func (w *words) open() (session.State, bool) {
	if w.now.x == nil {
		return session.State{}, false
	}
	return *w.now.x, true
}

// size returns how many earlier and later states there are.
func (w *words) size() [2]int {
	return [2]int{len(w.earlier), len(w.later)}
}

// wordsRight holds T2: the selections are disjoint, the fields are disjoint or one in
// the other, and the mirrors have the texts of their primaries.
func wordsRight(t *testing.T, s Seen, x session.State) {
	t.Helper()
	if len(s.Sels) == 0 || len(s.Sels) > 16 || !sels.Is(s.Sels, len(s.Text)) {
		t.Errorf("%q: %v", string(s.Text), s.Sels)
	}
	if len(s.Text) > 2000 || !wordsValid(s.Text) {
		t.Errorf("%d runes", len(s.Text))
	}
	first := map[int]int{}
	for i, f := range x.Fields {
		if f.Span.From < 0 || f.Span.To < f.Span.From || f.Span.To > len(s.Text) || f.Up < -1 || f.Up >= i {
			t.Errorf("%q: %v", string(s.Text), x.Fields)
		}
		if _, is := first[f.N]; f.Primary && !is {
			first[f.N] = i
		}
		for _, g := range x.Fields[:i] {
			a, b := f.Span, g.Span
			in := a.From >= b.From && a.To <= b.To || b.From >= a.From && b.To <= a.To
			if !in && a.From < b.To && b.From < a.To {
				t.Errorf("%q: %v, %v", string(s.Text), a, b)
			}
		}
	}
	for i, f := range x.Fields {
		p, is := first[f.N]
		if !is || p == i {
			continue
		}
		want := s.Text[x.Fields[p].Span.From:x.Fields[p].Span.To]
		if f.Turn {
			want, _ = transform.Apply(f.T, want)
		}
		if got := s.Text[f.Span.From:f.Span.To]; string(got) != string(want) {
			t.Errorf("%q: %d: %q, want %q", string(s.Text), f.N, string(got), string(want))
		}
	}
}
