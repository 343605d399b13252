package pattern

import "stylus/api"

// atom parses an atom.
func (p *parser) atom() Node {
	switch p.next() {
	case '(':
		return p.group()
	case '[':
		return p.set()
	case '\\':
		return p.escape()
	}
	return p.plain()
}

// plain parses an atom of one rune. A branch has ended where that is | or ).
func (p *parser) plain() Node {
	r := p.next()
	switch r {
	case ']', '{', '}', '*', '+', '?':
		panic(p.faultHere(api.ErrForm))
	}
	p.at++
	switch r {
	case '.':
		return Node{Kind: Set, Not: true, Set: []api.Span{span('\n', '\n')}}
	case '^':
		return Node{Kind: Begin}
	case '$':
		return Node{Kind: End}
	}
	return Node{Kind: Char, N: int(r)}
}

// group parses a group.
func (p *parser) group() Node {
	if p.depth == api.MaxDeep {
		panic(p.faultHere(api.ErrDeep))
	}
	x := Node{Kind: Group, N: p.number()}
	p.depth++
	x.Subs = []Node{p.pattern()}
	p.depth--
	p.want(')')
	return x
}

// number parses what a group begins with, and returns its number.
func (p *parser) number() int {
	if p.ahead(1) == '?' && p.ahead(2) == ':' {
		p.at += 3
		return 0
	}
	if p.groups == mostGroups {
		panic(p.faultHere(api.ErrFull))
	}
	p.at++
	p.groups++
	return p.groups
}

// escape parses a \ and the rune that follows it, outside of a set.
func (p *parser) escape() Node {
	switch r := p.ahead(1); r {
	case 'd', 'w', 's':
		p.at += 2
		return Node{Kind: Set, Set: class(r)}
	case 'D', 'W', 'S':
		p.at += 2
		return Node{Kind: Set, Not: true, Set: class(r - 'D' + 'd')}
	}
	return Node{Kind: Char, N: p.escaped()}
}

// escaped parses a \ and a rune that together stand for one rune.
func (p *parser) escaped() int {
	p.at++
	r := p.next()
	switch {
	case r == 'n':
		r = '\n'
	case r == 't':
		r = '\t'
	case r < 0 || letterOrDigit(r):
		panic(p.faultHere(api.ErrForm))
	}
	p.at++
	return int(r)
}

// letterOrDigit reports whether r is a letter or a digit of ASCII.
func letterOrDigit(r rune) bool {
	return '0' <= r && r <= '9' || 'A' <= r && r <= 'Z' || 'a' <= r && r <= 'z'
}

// set parses a set.
func (p *parser) set() Node {
	p.at++
	x := Node{Kind: Set, Not: p.take('^')}
	x.Set = p.item()
	for !p.take(']') {
		x.Set = append(x.Set, p.item()...)
	}
	return x
}

// item parses an item of a set.
func (p *parser) item() []api.Span {
	if p.next() == '\\' {
		if spans := class(p.ahead(1)); spans != nil {
			p.at += 2
			return spans
		}
	}
	first := p.member()
	if !p.take('-') {
		return []api.Span{span(first, first)}
	}
	second := p.at
	last := p.member()
	if first > last {
		panic(fault{second, api.ErrForm})
	}
	return []api.Span{span(first, last)}
}

// member parses a single rune of a set.
func (p *parser) member() int {
	r := p.next()
	switch {
	case r == '\\':
		return p.escaped()
	case r < 0 || r == ']' || r == '-' || r == '^':
		panic(p.faultHere(api.ErrForm))
	}
	p.at++
	return int(r)
}

// class returns the spans of the class that has this letter, or none.
func class(letter rune) []api.Span {
	switch letter {
	case 'd':
		return []api.Span{span('0', '9')}
	case 'w':
		return []api.Span{span('0', '9'), span('A', 'Z'), span('_', '_'), span('a', 'z')}
	case 's':
		return []api.Span{span('\t', '\r'), span(' ', ' ')}
	}
	return nil
}

func span(first, last int) api.Span {
	return api.Span{From: first, To: last}
}
