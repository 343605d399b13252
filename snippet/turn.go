package snippet

import (
	"slices"

	"stylus/api"
	"stylus/transform"
)

// measure returns of how many runes the first piece of a text consists.
type measure func(s []rune) int

// ofPattern measures the pieces of a pattern: a \ with the rune behind it, or a
// single rune.
func ofPattern(s []rune) int {
	if s[0] == '\\' {
		return min(2, len(s))
	}
	return 1
}

// ofFormat measures the pieces of a format. There, what is from ${ up to the }
// is one piece.
func ofFormat(s []rune) int {
	if len(s) < 2 || s[0] != '$' || s[1] != '{' {
		return ofPattern(s)
	}
	n := 2
	for n < len(s) && s[n] != '}' {
		n += ofPattern(s[n:])
	}
	return n
}

// transform parses a transform, with the } behind it.
func (p *parser) transform() transform.Transform {
	first := p.at
	p.want('/')
	var t transform.Transform
	t.Pattern = p.pieces(ofPattern)
	t.Format = p.pieces(ofFormat)
	t.All, t.Fold = p.options()
	p.want('}')
	if transform.Check(t) != api.OK {
		panic(fault{first, api.ErrForm})
	}
	return t
}

// pieces parses a pattern or a format, with the / behind it. A piece that is
// not complete is the last one of the text, which then has no /.
func (p *parser) pieces(length measure) []rune {
	var t []rune
	for p.next() != none && p.next() != '/' {
		piece := p.text[p.at:]
		piece = piece[:length(piece)]
		p.at += len(piece)
		if slices.Equal(piece, []rune{'\\', '/'}) {
			piece = piece[1:]
		}
		t = append(t, piece...)
	}
	p.want('/')
	return t
}

// options parses the options of a transform, in any order.
func (p *parser) options() (all, fold bool) {
	all = p.take('g')
	fold = p.take('i')
	return all || p.take('g'), fold
}
