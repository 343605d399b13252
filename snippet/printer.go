package snippet

import (
	"strconv"
	"strings"

	"stylus/transform"
)

// printer is the text that has been printed so far.
type printer []rune

// put prints runes as they are.
func (p *printer) put(t ...rune) {
	*p = append(*p, t...)
}

// escape prints a text with a \ before each rune that is one of these.
func (p *printer) escape(t []rune, these string) {
	for _, r := range t {
		if strings.ContainsRune(these, r) {
			p.put('\\')
		}
		p.put(r)
	}
}

// parts prints parts, one after the other.
func (p *printer) parts(l []Node) {
	for _, x := range l {
		if x.Kind == Text {
			p.escape(x.Name, `$}\`)
		} else {
			p.part(x)
		}
	}
}

// part prints a part with braces.
func (p *printer) part(x Node) {
	p.put('$', '{')
	if x.Kind == Var {
		p.put(x.Name...)
	} else {
		p.put([]rune(strconv.Itoa(x.N))...)
	}
	switch {
	case x.Kind == Choice:
		p.choices(x.Choices)
	case x.Turn:
		p.transform(x.T)
	case len(x.Subs) > 0:
		p.put(':')
		p.parts(x.Subs)
	}
	p.put('}')
}

// choices prints choices with what is around them.
func (p *printer) choices(l [][]rune) {
	between := '|'
	for _, c := range l {
		p.put(between)
		p.escape(c, `,|\`)
		between = ','
	}
	p.put('|')
}

// transform prints a transform with the / before it.
func (p *printer) transform(t transform.Transform) {
	p.put('/')
	p.pieces(t.Pattern, ofPattern)
	p.put('/')
	p.pieces(t.Format, ofFormat)
	p.put('/')
	if t.All {
		p.put('g')
	}
	if t.Fold {
		p.put('i')
	}
}

// pieces prints a pattern or a format.
func (p *printer) pieces(t []rune, length measure) {
	for len(t) > 0 {
		n := length(t)
		if t[0] == '/' {
			p.put('\\')
		}
		p.put(t[:n]...)
		t = t[n:]
	}
}
