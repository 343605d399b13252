package pattern

import "stylus/api"

// mostGroups is the greatest number of a group.
const mostGroups = 9

// none stands for the rune behind the last one. It is below 0, as no rune of a
// pattern is, so that what stops at one of these stops at the end as well.
const none = -1

// parser parses a pattern from its first rune on. It panics with a fault where
// the pattern cannot continue.
type parser struct {
	text   []rune
	at     int
	depth  int // how many groups have begun and not ended
	groups int // how many groups have numbers
}

// fault is an error with its place.
type fault struct {
	at int
	e  api.Errno
}

// faultHere returns an error at the rune that is next.
func (p *parser) faultHere(e api.Errno) fault {
	return fault{p.at, e}
}

// ahead returns the rune so many places behind the next one.
func (p *parser) ahead(places int) rune {
	if p.at+places < len(p.text) {
		return p.text[p.at+places]
	}
	return none
}

// next returns the rune that is next.
func (p *parser) next() rune {
	return p.ahead(0)
}

// take moves on if r is next, and reports whether it was.
func (p *parser) take(r rune) bool {
	if p.next() != r {
		return false
	}
	p.at++
	return true
}

// want moves on if r is next, and gives up otherwise.
func (p *parser) want(r rune) {
	if !p.take(r) {
		panic(p.faultHere(api.ErrForm))
	}
}

// whole parses the pattern that is the whole text.
func (p *parser) whole() Node {
	x := p.pattern()
	if p.at < len(p.text) {
		panic(p.faultHere(api.ErrForm))
	}
	return x
}

// pattern parses branches.
func (p *parser) pattern() Node {
	branches := []Node{p.branch()}
	for p.take('|') {
		branches = append(branches, p.branch())
	}
	if len(branches) == 1 {
		return branches[0]
	}
	return Node{Kind: Alt, Subs: branches}
}

// branch parses pieces, up to what ends a branch.
func (p *parser) branch() Node {
	x := Node{Kind: Cat}
	for p.next() >= 0 && p.next() != '|' && p.next() != ')' {
		x.Subs = append(x.Subs, p.piece())
	}
	return x
}

// piece parses an atom with the repeat that may follow it.
func (p *parser) piece() Node {
	x := p.atom()
	if x.Kind == Begin || x.Kind == End {
		return x
	}
	least, most, repeated := p.repeat()
	if !repeated {
		return x
	}
	return Node{Kind: Rep, Min: least, Max: most, Lazy: p.take('?'), Subs: []Node{x}}
}

// repeat parses how often an atom is repeated, if that follows.
func (p *parser) repeat() (least, most int, repeated bool) {
	switch {
	case p.take('*'):
		return 0, -1, true
	case p.take('+'):
		return 1, -1, true
	case p.take('?'):
		return 0, 1, true
	case p.take('{'):
		least, most = p.counts()
		return least, most, true
	}
	return 0, 0, false
}

// counts parses what follows the { of a repeat.
func (p *parser) counts() (least, most int) {
	least = p.count(0)
	switch {
	case !p.take(','):
		most = least
	case p.next() == '}':
		most = -1
	default:
		most = p.count(least)
	}
	p.want('}')
	return least, most
}

// count parses a digit that is not less than least.
func (p *parser) count(least int) int {
	n := int(p.next()) - '0'
	if n < least || n > 9 {
		panic(p.faultHere(api.ErrForm))
	}
	p.at++
	return n
}
