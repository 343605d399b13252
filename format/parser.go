package format

// none stands for the rune behind the last one. It is below 0, as no rune of a
// format is, so that what stops at one of these stops at the end as well.
const none = -1

// parser parses a format from its first rune on. Its methods report whether the
// text could continue; where it could not, the parser stays.
type parser struct {
	text  []rune
	at    int
	items []Item
}

// next returns the rune that is next.
func (p *parser) next() rune {
	if p.at < len(p.text) {
		return p.text[p.at]
	}
	return none
}

// take moves on if r is next, and reports whether it was.
func (p *parser) take(r rune) bool {
	if p.next() != r {
		return false
	}
	p.at++
	return true
}

// takeAll moves on over these runes, as far as they are next.
func (p *parser) takeAll(runes string) bool {
	for _, r := range runes {
		if !p.take(r) {
			return false
		}
	}
	return true
}

// whole parses the format that is the whole text.
func (p *parser) whole() bool {
	for p.at < len(p.text) {
		if !p.item() {
			return false
		}
	}
	return true
}

// item parses a group with its form, or one rune of a Text.
func (p *parser) item() bool {
	if p.take('$') {
		x, ok := p.group()
		p.items = append(p.items, x)
		return ok
	}
	r, ok := p.single()
	p.put(r)
	return ok
}

// put appends a rune to the Text that the items end with.
func (p *parser) put(r rune) {
	last := len(p.items) - 1
	if last < 0 || p.items[last].Kind != Text {
		p.items = append(p.items, Item{Kind: Text})
		last++
	}
	p.items[last].Yes = append(p.items[last].Yes, r)
}

// single parses what stands for one rune: this rune, or a \ and a rune.
func (p *parser) single() (rune, bool) {
	escaped := p.take('\\')
	r := p.next()
	if r < 0 {
		return 0, false
	}
	p.at++
	if escaped && r == 'n' {
		r = '\n'
	}
	return r, true
}

// until parses a text, with the rune that ends it.
func (p *parser) until(end rune) ([]rune, bool) {
	var t []rune
	for !p.take(end) {
		r, ok := p.single()
		if !ok {
			return nil, false
		}
		t = append(t, r)
	}
	return t, true
}

// group parses what follows a $.
func (p *parser) group() (Item, bool) {
	braces := p.take('{')
	n, ok := p.number()
	if !ok {
		return Item{}, false
	}
	if !braces || p.take('}') {
		return Item{Kind: Plain, N: n}, true
	}
	if !p.take(':') {
		return Item{}, false
	}
	x, ok := p.form()
	x.N = n
	return x, ok
}

// number parses the digits of a group. They are all read before the number is
// looked at, which is why the parser goes back if it is too great.
func (p *parser) number() (int, bool) {
	n, first := 0, p.at
	for p.at < first+2 && isDigit(p.next()) {
		n = 10*n + int(p.next()-'0')
		p.at++
	}
	if n > 9 {
		p.at = first
	}
	return n, p.at > first
}

func isDigit(r rune) bool {
	return '0' <= r && r <= '9'
}

// form parses what follows the : of a group.
func (p *parser) form() (x Item, ok bool) {
	switch {
	case p.take('/'):
		x.Kind, ok = p.word()
		return x, ok && p.take('}')
	case p.take('+'):
		x.Kind = If
		x.Yes, ok = p.until('}')
		return x, ok
	case p.take('?'):
		x.Kind = Both
		if x.Yes, ok = p.until(':'); !ok {
			return x, false
		}
	default:
		p.take('-')
		x.Kind = Else
	}
	x.No, ok = p.until('}')
	return x, ok
}

// word parses the word of a case, and returns its kind.
func (p *parser) word() (int, bool) {
	switch p.next() {
	case 'u':
		return Up, p.takeAll("upcase")
	case 'd':
		return Down, p.takeAll("downcase")
	case 'c':
		return Capital, p.takeAll("capitalize")
	}
	return 0, false
}
