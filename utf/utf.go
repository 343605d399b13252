// Package utf decodes and encodes UTF-8.
package utf

import (
	"unicode/utf8"

	"stylus/api"
)

// Right reports whether r is valid.
func Right(r rune) bool {
	return utf8.ValidRune(r)
}

// Encode returns the encodings of all runes, one after the other.
func Encode(l []rune) []byte {
	b := make([]byte, 0, len(l))
	for _, r := range l {
		if !Right(r) {
			r = api.Odd
		}
		b = utf8.AppendRune(b, r)
	}
	return b
}

// First returns the rune that b begins with and its number of bytes, or 0, 0
// if more bytes are needed to tell.
func First(b []byte) (rune, int) {
	// FullRune also holds for bytes that no further ones can complete, which
	// sets them apart from an incomplete sequence.
	if !utf8.FullRune(b) {
		return 0, 0
	}
	return utf8.DecodeRune(b)
}

// Decode returns the runes of b.
func Decode(b []byte) []rune {
	l := make([]rune, 0, utf8.RuneCount(b))
	// The range moves on by a single byte, with api.Odd, wherever no complete
	// sequence begins: an incomplete end needs no care of its own.
	for _, r := range string(b) {
		l = append(l, r)
	}
	return l
}
