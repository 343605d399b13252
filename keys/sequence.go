package keys

import (
	"bytes"
	"strconv"
)

// sequence is first for a sequence of which the first two bytes are there, and
// that may have up to most bytes ahead of its last one.
func sequence(b []byte, most int) (Key, int) {
	n := 2
	for n < len(b) && n < 2+most && b[n] >= 48 && b[n] <= 63 {
		n++
	}
	if n == len(b) {
		return Key{}, 0
	}
	if b[n] < 64 || b[n] > 126 {
		return Key{}, n // the byte that breaks it is not part of it
	}
	return sequenceKey(b[2:n], b[n]), n + 1
}

// sequenceKey returns the key of a sequence, which is told by its last byte and
// the numbers ahead of it. Its Kind is 0 if there is none.
func sequenceKey(ahead []byte, last byte) Key {
	l, are := numbers(ahead)
	if !are {
		return Key{}
	}
	k := Key{Mods: modsOf(l)}
	switch last {
	case 'A':
		k.Kind = Up
	case 'B':
		k.Kind = Down
	case 'C':
		k.Kind = Right
	case 'D':
		k.Kind = Left
	case 'H':
		k.Kind = Home
	case 'F':
		k.Kind = End
	case 'Z':
		k.Kind = Tab
		k.Mods |= shift
	case '~':
		k.Kind = kindOf(l)
	}
	return k
}

// numbers returns the numbers that bytes consist of, and whether they do so.
func numbers(b []byte) ([]int, bool) {
	if len(b) == 0 {
		return nil, true
	}
	var l []int
	for _, digits := range bytes.Split(b, []byte{';'}) {
		// No byte of a sequence is a sign, so that what Atoi reads is digits alone.
		n, err := strconv.Atoi(string(digits))
		if err != nil || len(digits) > 3 {
			return nil, false
		}
		l = append(l, n)
	}
	return l, true
}

// modsOf returns what the second number tells.
func modsOf(l []int) int {
	if len(l) < 2 || l[1] < 2 || l[1] > 8 {
		return 0
	}
	return l[1] - 1
}

// kindOf returns what the first number tells, or 0.
func kindOf(l []int) int {
	if len(l) == 0 {
		return 0
	}
	switch l[0] {
	case 1, 7:
		return Home
	case 3:
		return Delete
	case 4, 8:
		return End
	}
	return 0
}
