package abbr

import (
	"slices"

	"stylus/utf"
)

// longest is the greatest number of runes of a name.
const longest = 20

// permitted reports whether an abbreviation may have this name.
func permitted(name []rune) bool {
	return len(name) > 0 && len(name) <= longest && !slices.ContainsFunc(name, isBarred)
}

// isBarred reports whether no name has r.
func isBarred(r rune) bool {
	return !utf.Right(r) || r == ' ' || r == '\t' || r == '\n'
}

// begins reports whether a name may begin at a place, which has a rune: it may
// not where a word goes on.
func begins(text []rune, from int) bool {
	return from == 0 || !isWord(text[from]) || !isWord(text[from-1])
}

func isWord(r rune) bool {
	return r >= 'A' && r <= 'Z' || r >= 'a' && r <= 'z' || r >= '0' && r <= '9' || r == '_' || r >= 128
}
