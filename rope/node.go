package rope

import "stylus/utf"

// longest is the greatest number of runes of a chunk: an edit copies a few
// chunks of this size, and the list of nodes.
const longest = 64

// sums tells what a text consists of.
type sums struct {
	runes, breaks, bytes int
}

// node is a chunk of the text, with its sums, so that only the chunks at the
// ends of what is asked for are read rune by rune.
//
// A chunk is never changed, and its capacity ends with it: what is appended
// to it goes to new memory, and not over the chunk behind it, with which it
// may share an array.
type node struct {
	chunk []rune
	sums
}

// newNode returns the node of a chunk, which nobody else may change.
func newNode(l []rune) node {
	s := sums{runes: len(l), bytes: len(utf.Encode(l))}
	for _, r := range l {
		if r == newLine {
			s.breaks++
		}
	}
	return node{l[:len(l):len(l)], s}
}

// count returns the sums of all nodes together.
func count(nodes []node) sums {
	var all sums
	for _, n := range nodes {
		all.runes += n.runes
		all.breaks += n.breaks
		all.bytes += n.bytes
	}
	return all
}

// chop returns the nodes of a text, which nobody else may change.
func chop(l []rune) []node {
	var nodes []node
	for len(l) > 0 {
		size := min(len(l), longest)
		nodes = append(nodes, newNode(l[:size]))
		l = l[size:]
	}
	return nodes
}

// split returns the nodes before a place and those after it.
func split(nodes []node, at int) (before, after []node) {
	for i, n := range nodes {
		if at == 0 {
			return nodes[:i:i], nodes[i:]
		}
		if at < n.runes {
			// The capacity of nodes[:i:i] ends before the node that is cut:
			// the two parts of it must not take its place in the rope.
			before = append(nodes[:i:i], newNode(n.chunk[:at]))
			after = append([]node{newNode(n.chunk[at:])}, nodes[i+1:]...)
			return before, after
		}
		at -= n.runes
	}
	return nodes, nil
}

// join returns the nodes of all parts, one after the other. Two neighbours
// that fit into one chunk become one: otherwise many small edits would leave
// a node for each rune.
func join(parts ...[]node) []node {
	var joined []node
	for _, part := range parts {
		for _, n := range part {
			last := len(joined) - 1
			if last >= 0 && joined[last].runes+n.runes <= longest {
				n = newNode(append(joined[last].chunk, n.chunk...))
				joined = joined[:last]
			}
			joined = append(joined, n)
		}
	}
	return joined
}
