package keys

import "stylus/utf"

// escape is the byte that sequences begin with, and that gives other keys Alt.
const escape = 27

// mostAhead is how many bytes a sequence with [ may have ahead of its last one.
const mostAhead = 12

// first returns the key that b begins with, and its number of bytes. The number
// is 0 if more bytes are needed to tell; the Kind is 0 if the bytes are no key.
func first(b []byte) (Key, int) {
	if len(b) == 0 {
		return Key{}, 0
	}
	var k Key
	switch b[0] {
	case escape:
		return escaped(b)
	case 10:
		k.Mods = control
		fallthrough // it is Enter as 13 is
	case 13:
		k.Kind = Enter
	case 9:
		k.Kind = Tab
	case 8, 127:
		k.Kind = Back
	default:
		return character(b)
	}
	return k, 1
}

// character is first for bytes that begin with a Char, and no escape.
func character(b []byte) (Key, int) {
	if b[0] < 32 {
		return Key{Kind: Char, Rune: rune(b[0]) + 96, Mods: control}, 1
	}
	r, n := utf.First(b)
	return Key{Kind: Char, Rune: r}, n
}

// escaped is first for bytes that begin with an escape.
func escaped(b []byte) (Key, int) {
	if len(b) == 1 {
		return Key{}, 0
	}
	switch b[1] {
	case escape:
		return Key{}, 1
	case 'O':
		return sequence(b, 0)
	case '[':
		return sequence(b, mostAhead)
	}
	k, n := first(b[1:])
	if n == 0 {
		return Key{}, 0
	}
	k.Mods += alt
	return k, n + 1
}
