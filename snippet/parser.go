package snippet

import (
	"slices"
	"strings"

	"stylus/api"
)

// none stands for the rune behind the last one. A parser meets no rune below 0.
const none = -1

// parser parses a snippet from its first rune on. It panics with a fault where
// the snippet cannot continue.
type parser struct {
	text  []rune
	at    int
	depth int // in the Subs of how many parts the next rune is
}

// fault is an error with its place.
type fault struct {
	at int
	e  api.Errno
}

// whole parses the snippet that is the whole text. As a rune below 0 cannot
// occur anywhere, the text that is parsed ends ahead of the first one.
func whole(s []rune) []Node {
	p := parser{text: s}
	if i := slices.IndexFunc(s, isBelow); i >= 0 {
		p.text = s[:i]
	}
	l := p.parts("$")
	if p.at < len(s) {
		panic(fault{p.at, api.ErrForm})
	}
	return l
}

func isBelow(r rune) bool {
	return r < 0
}

// next returns the rune that is next.
func (p *parser) next() rune {
	if p.at == len(p.text) {
		return none
	}
	return p.text[p.at]
}

// take moves on if r is next, and reports whether it was.
func (p *parser) take(r rune) bool {
	is := p.next() == r
	if is {
		p.at++
	}
	return is
}

// want moves on if r is next, and gives up otherwise.
func (p *parser) want(r rune) {
	if !p.take(r) {
		panic(fault{p.at, api.ErrForm})
	}
}

// parts parses parts up to one of the ends, which the $ of a part is too, or to
// the end of the text.
func (p *parser) parts(ends string) []Node {
	var l []Node
	for {
		if t := p.runes(ends); len(t) > 0 {
			l = append(l, Node{Kind: Text, Name: t})
		}
		if p.next() != '$' {
			return l
		}
		l = append(l, p.part())
	}
}

// runes parses runes that stand for themselves, or for the one behind a \, up
// to one of the ends, or to the end of the text.
func (p *parser) runes(ends string) []rune {
	var t []rune
	for p.next() != none && !strings.ContainsRune(ends, p.next()) {
		if p.take('\\') && p.next() == none {
			panic(fault{p.at, api.ErrForm})
		}
		t = append(t, p.next())
		p.at++
	}
	return t
}

// part parses a part that begins with a $.
func (p *parser) part() Node {
	if p.depth > api.MaxDeep {
		panic(fault{p.at, api.ErrDeep})
	}
	p.want('$')
	braces := p.take('{')
	x := p.plain()
	if braces {
		p.complete(&x)
	}
	return x
}

// plain parses the number of a Stop, or the name of a Var.
func (p *parser) plain() Node {
	first := p.at
	switch {
	case isDigit(p.next()):
		x := Node{Kind: Stop}
		for p.at < first+2 && isDigit(p.next()) {
			x.N = 10*x.N + int(p.next()-'0')
			p.at++
		}
		return x
	case isLetter(p.next()):
		for isLetter(p.next()) || isDigit(p.next()) {
			p.at++
		}
		return Node{Kind: Var, Name: slices.Clone(p.text[first:p.at])}
	}
	panic(fault{p.at, api.ErrForm})
}

func isDigit(r rune) bool {
	return '0' <= r && r <= '9'
}

func isLetter(r rune) bool {
	return 'A' <= r && r <= 'Z' || 'a' <= r && r <= 'z' || r == '_'
}

// complete parses what follows the number or the name of a part with braces.
func (p *parser) complete(x *Node) {
	switch {
	case p.take(':'):
		p.depth++
		x.Subs = p.parts("$}")
		p.depth--
		p.want('}')
	case p.next() == '/':
		x.Turn = true
		x.T = p.transform()
	case x.Kind == Stop && p.take('|'):
		x.Kind = Choice
		x.Choices = p.choices()
	default:
		p.want('}')
	}
}

// choices parses the choices of a Choice, with what ends it.
func (p *parser) choices() [][]rune {
	l := [][]rune{p.runes(",|")}
	for p.take(',') {
		l = append(l, p.runes(",|"))
	}
	p.want('|')
	p.want('}')
	return l
}
