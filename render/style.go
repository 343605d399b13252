package render

import (
	"stylus/api"
	"stylus/sels"
)

// The style of a cell is the sum of these.
const (
	selected = 1
	inField  = 2
	atCaret  = 4
)

// stylesOf returns the style of each place of a text, the end included.
func stylesOf(v View) []int {
	var spans []api.Span
	for _, s := range v.Sels {
		spans = append(spans, sels.Span(s))
	}
	chosen, fields := inSpans(spans, len(v.Text)), inSpans(v.Spans, len(v.Text))
	l := make([]int, len(v.Text)+1)
	for i := range l {
		if chosen[i] {
			l[i] += selected
		}
		if fields[i] {
			l[i] += inField
		}
	}
	for _, s := range v.Sels {
		l[s.Head] |= atCaret // more than one may be there
	}
	return l
}

// inSpans returns for each place of a text, the end included, whether it is in
// one of the spans.
func inSpans(l []api.Span, length int) []bool {
	// How many more spans there are from a place on, so that no span is gone
	// through place by place.
	more := make([]int, length+1)
	for _, s := range l {
		more[s.From]++
		more[s.To]--
	}
	in := make([]bool, length+1)
	spans := 0
	for place, n := range more {
		spans += n
		in[place] = spans > 0
	}
	return in
}
