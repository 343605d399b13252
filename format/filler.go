package format

// fill returns the text of an item. It may share memory with the item and the
// groups.
func (x Item) fill(groups [][]rune) []rune {
	group := x.group(groups)
	set := len(group) > 0
	switch x.Kind {
	case Text:
		return x.Yes
	case Plain:
		return group
	case Up, Down, Capital:
		return Turn(x.Kind, group)
	case If:
		return either(set, x.Yes, nil)
	case Both:
		return either(set, x.Yes, x.No)
	case Else:
		return either(set, group, x.No)
	}
	return nil
}

// group returns the text of an item's group. Nothing asks for the difference
// between one that is not set and one that is empty.
func (x Item) group(groups [][]rune) []rune {
	if x.N < 0 || x.N >= len(groups) {
		return nil
	}
	return groups[x.N]
}

func either(first bool, a, b []rune) []rune {
	if first {
		return a
	}
	return b
}
