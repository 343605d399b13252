package motion

// back goes back from a place, over those runes for which is holds.
func back(t []rune, at int, is func(r rune) bool) int {
	for at > 0 && is(t[at-1]) {
		at--
	}
	return at
}

// forward goes forward from a place, over those runes for which is holds.
func forward(t []rune, at int, is func(r rune) bool) int {
	for at < len(t) && is(t[at]) {
		at++
	}
	return at
}

func inWord(r rune) bool {
	letter := 'A' <= r && r <= 'Z' || 'a' <= r && r <= 'z'
	digit := '0' <= r && r <= '9'
	return letter || digit || r == '_' || r >= 128
}

func inGap(r rune) bool { return !inWord(r) }

func inLine(r rune) bool { return r != 10 }

// up returns the place as far on the previous line.
func up(t []rune, at int) int {
	begin := back(t, at, inLine)
	if begin == 0 {
		return at
	}
	end := begin - 1 // the rune 10 is there
	return min(back(t, end, inLine)+at-begin, end)
}

// down returns the place as far on the next line.
func down(t []rune, at int) int {
	end := forward(t, at, inLine)
	if end == len(t) {
		return at
	}
	begin := end + 1 // after the rune 10
	return min(begin+at-back(t, at, inLine), forward(t, begin, inLine))
}
