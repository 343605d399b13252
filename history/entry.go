package history

import (
	"slices"

	"stylus/score"
)

// entry is a line, and how often it was added.
type entry struct {
	line  []rune
	count int
}

// matches reports whether the line begins with a text, or, as a part, contains it.
func (e entry) matches(t []rune, part bool) bool {
	places := 1
	if part {
		places += len(e.line)
	}
	for at := range places {
		if begins(e.line[at:], t) {
			return true
		}
	}
	return false
}

func begins(line, t []rune) bool {
	return len(line) >= len(t) && slices.Equal(line[:len(t)], t)
}

// value returns the value for a text, which is not a number if the runes of the
// text are not found in the line.
func (e entry) value(t []rune) float64 {
	return score.Mark(t, e.line) + float64(e.count)/4
}
