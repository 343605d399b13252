package format

// cases returns for each kind of a case what converts a text in place.
func cases() map[int]func(t []rune) {
	up := mover('a', 'z', 'A')
	down := mover('A', 'Z', 'a')
	return map[int]func(t []rune){
		Up:      func(t []rune) { each(t, up) },
		Down:    func(t []rune) { each(t, down) },
		Capital: func(t []rune) { each(t[:min(1, len(t))], up) },
	}
}

// mover returns what moves the runes from first to last so that they begin at
// start, and leaves all others as they are.
func mover(first, last, start rune) func(r rune) rune {
	return func(r rune) rune {
		if first <= r && r <= last {
			return r - first + start
		}
		return r
	}
}

// each converts the runes of a text in place.
func each(t []rune, convert func(r rune) rune) {
	for i, r := range t {
		t[i] = convert(r)
	}
}
