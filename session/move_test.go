package session

import (
	"math"
	"testing"

	"stylus/api"
)

// moved has fields, the active number, an edit, and what comes of it.
type moved struct {
	text   string
	fields string
	active int
	edit   api.Edit
	after  string
	want   string
}

func holdMoved(t *testing.T, l ...moved) {
	t.Helper()
	for _, x := range l {
		holdEdit(t, state(x.text, x.active, x.fields), []api.Edit{x.edit}, state(x.after, x.active, x.want))
	}
}

// P16.2: to move

func TestMoveByInsertion(t *testing.T) {
	holdMoved(t,
		// The field sticks at both ends.
		moved{"abcd", "1* 1..3", 1, ins(0, "X"), "Xabcd", "1* 2..4"},
		moved{"abcd", "1* 1..3", 1, ins(1, "X"), "aXbcd", "1* 1..4"},
		moved{"abcd", "1* 1..3", 1, ins(2, "XY"), "abXYcd", "1* 1..5"},
		moved{"abcd", "1* 1..3", 1, ins(3, "X"), "abcXd", "1* 1..4"},
		moved{"abcd", "1* 1..3", 1, ins(4, "X"), "abcdX", "1* 1..3"},
		moved{"ab", "1* 0..2", 1, ins(0, "X"), "Xab", "1* 0..3"},
		moved{"ab", "1* 0..2", 1, ins(2, "X"), "abX", "1* 0..3"},
		// It doesn't.
		moved{"abcd", "1* 1..3", 2, ins(0, "X"), "Xabcd", "1* 2..4"},
		moved{"abcd", "1* 1..3", 2, ins(1, "X"), "aXbcd", "1* 2..4"},
		moved{"abcd", "1* 1..3", 2, ins(2, "XY"), "abXYcd", "1* 1..5"},
		moved{"abcd", "1* 1..3", 2, ins(3, "X"), "abcXd", "1* 1..3"},
		moved{"abcd", "1* 1..3", 2, ins(4, "X"), "abcdX", "1* 1..3"},
		// An empty one.
		moved{"ab", "1* 1..1", 1, ins(1, "X"), "aXb", "1* 1..2"},
		moved{"ab", "1* 1..1", 1, ins(0, "X"), "Xab", "1* 2..2"},
		moved{"ab", "1* 1..1", 1, ins(2, "X"), "abX", "1* 1..1"},
		moved{"ab", "1* 1..1", 2, ins(1, "XY"), "aXYb", "1* 3..3"},
		moved{"", "1* 0..0", 1, ins(0, "X"), "X", "1* 0..1"},
		moved{"", "1* 0..0", 0, ins(0, "X"), "X", "1* 1..1"},
		// A field with the number 0 sticks as any other one does.
		moved{"ab", "0* 1..1", 0, ins(1, "X"), "aXb", "0* 1..2"},
		moved{"ab", "0* 1..1", 1, ins(1, "X"), "aXb", "0* 2..2"},
		moved{"ab", "-7* 0..1", -7, ins(1, "X"), "aXb", "-7* 0..2"},
		// Nothing is inserted.
		moved{"abcd", "1* 1..3", 1, ins(1, ""), "abcd", "1* 1..3"},
		moved{"abcd", "1* 1..3", 2, ins(3, ""), "abcd", "1* 1..3"},
	)
}

func TestMoveSideBySide(t *testing.T) {
	holdMoved(t,
		moved{"abcd", "1* 0..2, 2* 2..4", 1, ins(2, "X"), "abXcd", "1* 0..3, 2* 3..5"},
		moved{"abcd", "1* 0..2, 2* 2..4", 2, ins(2, "X"), "abXcd", "1* 0..2, 2* 2..5"},
		moved{"abcd", "1* 0..2, 2* 2..4", 3, ins(2, "X"), "abXcd", "1* 0..2, 2* 3..5"},
		moved{"abcd", "2* 2..4, 1* 0..2", 1, ins(2, "X"), "abXcd", "2* 3..5, 1* 0..3"},
		// Empty ones at the same place: those that don't stick go behind.
		moved{"ab", "1* 1..1, 2* 1..1, 3* 1..1", 1, ins(1, "X"), "aXb", "1* 1..2, 2* 2..2, 3* 2..2"},
		moved{"ab", "1* 1..1, 2* 1..1, 3* 1..1", 2, ins(1, "X"), "aXb", "1* 2..2, 2* 1..2, 3* 2..2"},
		moved{"ab", "1* 1..1, 2* 1..1, 3* 1..1", 3, ins(1, "X"), "aXb", "1* 2..2, 2* 2..2, 3* 1..2"},
		moved{"ab", "1* 1..1, 2* 1..1, 3* 1..1", 4, ins(1, "X"), "aXb", "1* 2..2, 2* 2..2, 3* 2..2"},
		// An empty one beside another one.
		moved{"ab", "1* 0..1, 2* 1..1, 3* 1..2", 1, ins(1, "X"), "aXb", "1* 0..2, 2* 2..2, 3* 2..3"},
		moved{"ab", "1* 0..1, 2* 1..1, 3* 1..2", 2, ins(1, "X"), "aXb", "1* 0..1, 2* 1..2, 3* 2..3"},
		moved{"ab", "1* 0..1, 2* 1..1, 3* 1..2", 3, ins(1, "X"), "aXb", "1* 0..1, 2* 2..2, 3* 1..3"},
		moved{"ab", "1* 0..1, 2* 1..1, 3* 1..2", 4, ins(1, "X"), "aXb", "1* 0..1, 2* 2..2, 3* 2..3"},
	)
}

func TestMoveOneInTheOther(t *testing.T) {
	holdMoved(t,
		moved{"abcd", "1* 0..4, 2* 1..3 ^0", 2, ins(1, "X"), "aXbcd", "1* 0..5, 2* 1..4 ^0"},
		moved{"abcd", "1* 0..4, 2* 1..3 ^0", 1, ins(1, "X"), "aXbcd", "1* 0..5, 2* 2..4 ^0"},
		moved{"abcd", "1* 0..4, 2* 1..3 ^0", 1, ins(3, "X"), "abcXd", "1* 0..5, 2* 1..3 ^0"},
		moved{"abcd", "1* 0..4, 2* 1..3 ^0", 2, ins(0, "X"), "Xabcd", "1* 0..5, 2* 2..4 ^0"},
		moved{"abcd", "1* 0..4, 2* 1..3 ^0", 2, ins(4, "X"), "abcdX", "1* 0..5, 2* 1..3 ^0"},
		moved{"abcd", "1* 0..4, 2* 1..3 ^0", 3, ins(4, "X"), "abcdX", "1* 0..4, 2* 1..3 ^0"},
		moved{"ab", "1* 0..2, 2* 0..2 ^0", 2, ins(0, "X"), "Xab", "1* 0..3, 2* 0..3 ^0"},
		moved{"ab", "1* 0..2, 2* 0..2 ^0", 2, ins(2, "X"), "abX", "1* 0..3, 2* 0..3 ^0"},
		moved{"ab", "1* 0..2, 2* 0..2 ^0", 1, ins(0, "X"), "Xab", "1* 0..3, 2* 1..3 ^0"},
		moved{"ab", "1* 0..2, 2* 0..2 ^0", 1, ins(2, "X"), "abX", "1* 0..3, 2* 0..2 ^0"},
		moved{"ab", "1* 0..2, 2* 0..2 ^0", 3, ins(0, "X"), "Xab", "1* 1..3, 2* 1..3 ^0"},
		// All that are above a field stick with it.
		moved{"ab", "1* 0..2, 2* 0..2 ^0, 3* 0..2 ^1", 3, ins(2, "X"), "abX", "1* 0..3, 2* 0..3 ^0, 3* 0..3 ^1"},
		moved{"ab", "1* 0..2, 2* 0..2 ^0, 3* 0..2 ^1", 2, ins(2, "X"), "abX", "1* 0..3, 2* 0..3 ^0, 3* 0..2 ^1"},
		moved{"ab", "1* 0..2, 2* 0..2 ^0, 3* 0..2 ^1", 1, ins(2, "X"), "abX", "1* 0..3, 2* 0..2 ^0, 3* 0..2 ^1"},
		moved{"", "1* 0..0, 2* 0..0 ^0, 3* 0..0 ^1", 3, ins(0, "X"), "X", "1* 0..1, 2* 0..1 ^0, 3* 0..1 ^1"},
		// An Up is passed over: what is above is told by the Ups, not by where fields are.
		moved{"ab", "1* 0..2, 2* 0..2 ^0, 3* 0..2 ^0", 3, ins(2, "X"), "abX", "1* 0..3, 2* 0..2 ^0, 3* 0..3 ^0"},
		moved{"ab", "1* 0..2, 2* 0..2", 2, ins(2, "X"), "abX", "1* 0..2, 2* 0..3"},
		moved{"ab", "1* 0..2, 2* 0..2", 2, ins(0, "X"), "Xab", "1* 1..3, 2* 0..3"},
		// One beside it in the same field doesn't stick.
		moved{"ab", "1* 0..2, 2* 0..1 ^0, 3* 1..2 ^0", 2, ins(1, "X"), "aXb", "1* 0..3, 2* 0..2 ^0, 3* 2..3 ^0"},
		moved{"ab", "1* 0..2, 2* 0..1 ^0, 3* 1..2 ^0", 3, ins(1, "X"), "aXb", "1* 0..3, 2* 0..1 ^0, 3* 1..3 ^0"},
	)
}

func TestMoveByRemoval(t *testing.T) {
	for _, active := range []int{1, 2} {
		holdMoved(t,
			moved{"abcdef", "1* 2..4", active, put(0, 1, ""), "bcdef", "1* 1..3"},
			moved{"abcdef", "1* 2..4", active, put(0, 2, ""), "cdef", "1* 0..2"},
			moved{"abcdef", "1* 2..4", active, put(1, 2, ""), "adef", "1* 1..2"},
			moved{"abcdef", "1* 2..4", active, put(1, 3, ""), "aef", "1* 1..1"},
			moved{"abcdef", "1* 2..4", active, put(2, 1, ""), "abdef", "1* 2..3"},
			moved{"abcdef", "1* 2..4", active, put(2, 2, ""), "abef", "1* 2..2"},
			moved{"abcdef", "1* 2..4", active, put(3, 1, ""), "abcef", "1* 2..3"},
			moved{"abcdef", "1* 2..4", active, put(3, 2, ""), "abcf", "1* 2..3"},
			moved{"abcdef", "1* 2..4", active, put(4, 2, ""), "abcd", "1* 2..4"},
			moved{"abcdef", "1* 2..4", active, put(5, 1, ""), "abcde", "1* 2..4"},
			moved{"abcdef", "1* 2..4", active, put(0, 6, ""), "", "1* 0..0"},
			moved{"abcdef", "1* 2..2", active, put(1, 2, ""), "adef", "1* 1..1"},
			moved{"abcdef", "1* 0..6, 2* 2..3 ^0", active, put(0, 6, ""), "", "1* 0..0, 2* 0..0 ^0"},
			moved{"abcdef", "1* 0..6, 2* 2..4 ^0", active, put(1, 2, ""), "adef", "1* 0..4, 2* 1..2 ^0"},
		)
	}
}

func TestMoveByReplacement(t *testing.T) {
	holdMoved(t,
		moved{"abcdef", "1* 2..4", 1, put(1, 2, "XYZ"), "aXYZdef", "1* 1..5"},
		moved{"abcdef", "1* 2..4", 2, put(1, 2, "XYZ"), "aXYZdef", "1* 4..5"},
		moved{"abcdef", "1* 2..4", 1, put(3, 2, "XYZ"), "abcXYZf", "1* 2..6"},
		moved{"abcdef", "1* 2..4", 2, put(3, 2, "XYZ"), "abcXYZf", "1* 2..3"},
		moved{"abcdef", "1* 2..4", 1, put(2, 2, "XYZ"), "abXYZef", "1* 2..5"},
		moved{"abcdef", "1* 2..4", 2, put(2, 2, "XYZ"), "abXYZef", "1* 5..5"},
		moved{"abcdef", "1* 2..4", 1, put(0, 6, "XYZ"), "XYZ", "1* 0..3"},
		moved{"abcdef", "1* 2..4", 2, put(0, 6, "XYZ"), "XYZ", "1* 3..3"},
		moved{"abcdef", "1* 2..4", 2, put(0, 2, "XYZ"), "XYZcdef", "1* 3..5"},
		moved{"abcdef", "1* 2..4", 1, put(0, 2, "XYZ"), "XYZcdef", "1* 0..5"},
		moved{"abcdef", "1* 2..4", 2, put(4, 2, "X"), "abcdX", "1* 2..4"},
		moved{"abcdef", "1* 2..4", 1, put(4, 2, "X"), "abcdX", "1* 2..5"},
		// What is in a field that is replaced goes behind.
		moved{"abcdef", "1* 1..5, 2* 2..3 ^0", 1, put(1, 4, "XY"), "aXYf", "1* 1..3, 2* 3..3 ^0"},
		moved{"abcdef", "1* 1..5, 2* 2..3 ^0", 2, put(1, 4, "XY"), "aXYf", "1* 1..3, 2* 1..3 ^0"},
		moved{"abcdef", "1* 1..5, 2* 2..3 ^0", 3, put(1, 4, "XY"), "aXYf", "1* 3..3, 2* 3..3 ^0"},
		moved{"abcdef", "1* 1..5, 2* 2..3 ^0", 1, put(2, 1, "XY"), "abXYdef", "1* 1..6, 2* 4..4 ^0"},
		// Across several ones.
		moved{"abcdef", "1* 0..2, 2* 2..4, 3* 4..6", 2, put(1, 4, "XY"), "aXYf", "1* 0..1, 2* 1..3, 3* 3..4"},
		moved{"abcdef", "1* 0..2, 2* 2..4, 3* 4..6", 1, put(1, 4, "XY"), "aXYf", "1* 0..3, 2* 3..3, 3* 3..4"},
		moved{"abcdef", "1* 0..2, 2* 2..4, 3* 4..6", 3, put(1, 4, "XY"), "aXYf", "1* 0..1, 2* 3..3, 3* 1..4"},
		moved{"abcdef", "1* 0..2, 2* 2..4, 3* 4..6", 4, put(1, 4, "XY"), "aXYf", "1* 0..1, 2* 3..3, 3* 3..4"},
	)
}

func TestMoveUps(t *testing.T) {
	holdMoved(t,
		// Its Up doesn't contain it any more.
		moved{"ab", "1* 0..2, 2* 2..2 ^0", 3, ins(2, "X"), "abX", "1* 0..2, 2* 3..3"},
		moved{"ab", "1* 0..2, 2* 2..2 ^0", 1, ins(2, "X"), "abX", "1* 0..3, 2* 3..3 ^0"},
		moved{"ab", "1* 0..2, 2* 0..0 ^0", 3, ins(0, "X"), "Xab", "1* 1..3, 2* 1..1 ^0"},
		moved{"ab", "1* 0..2, 2* 2..2 ^0", 2, ins(2, "X"), "abX", "1* 0..3, 2* 2..3 ^0"},
		// The Up of its Up does, or the Up of that, or none.
		moved{"ab", "9* 0..2, 1* 0..2 ^0, 2* 2..2 ^1", 9, ins(2, "X"), "abX", "9* 0..3, 1* 0..2 ^0, 2* 3..3 ^0"},
		moved{"ab", "9* 0..2, 8* 0..2 ^0, 1* 0..2 ^1, 2* 2..2 ^2", 9, ins(2, "X"), "abX", "9* 0..3, 8* 0..2 ^0, 1* 0..2 ^1, 2* 3..3 ^0"},
		moved{"ab", "9* 0..2, 8* 0..2 ^0, 1* 0..2 ^1, 2* 2..2 ^2", 8, ins(2, "X"), "abX", "9* 0..3, 8* 0..3 ^0, 1* 0..2 ^1, 2* 3..3 ^1"},
		moved{"ab", "9* 0..2, 8* 0..2 ^0, 1* 0..2 ^1, 2* 2..2 ^2", 7, ins(2, "X"), "abX", "9* 0..2, 8* 0..2 ^0, 1* 0..2 ^1, 2* 3..3"},
		// Its Up has another Up by then.
		moved{"ab", "1* 0..2, 2* 2..2 ^0, 3* 2..2 ^1", 4, ins(2, "X"), "abX", "1* 0..2, 2* 3..3, 3* 3..3 ^1"},
		moved{"ab", "1* 0..2, 2* 2..2 ^0, 3* 0..1 ^1", 4, ins(2, "X"), "abX", "1* 0..2, 2* 3..3, 3* 0..1"},
		moved{"abc", "9* 0..3, 1* 0..2 ^0, 2* 2..2 ^1, 3* 0..1 ^2", 4, ins(2, "X"), "abXc", "9* 0..4, 1* 0..2 ^0, 2* 3..3 ^0, 3* 0..1 ^0"},
		// It never contained it: that counts from the first edit on, wherever it is.
		moved{"abcd", "1* 0..1, 2* 2..3 ^0", 3, ins(4, "X"), "abcdX", "1* 0..1, 2* 2..3"},
		moved{"abcd", "1* 0..1, 2* 2..3 ^0", 3, ins(4, ""), "abcd", "1* 0..1, 2* 2..3"},
		moved{"abcd", "1* 0..4, 2* 0..1 ^0, 3* 2..3 ^1", 4, ins(4, "X"), "abcdX", "1* 0..4, 2* 0..1 ^0, 3* 2..3 ^0"},
		moved{"abcd", "1* 1..3, 2* 0..4 ^0", 3, ins(0, ""), "abcd", "1* 1..3, 2* 0..4"},
		moved{"abcd", "1* 1..3, 2* 0..2 ^0, 3* 0..0 ^0", 3, put(0, 1, ""), "bcd", "1* 0..2, 2* 0..1 ^0, 3* 0..0 ^0"},
		// What was above a field ahead of the edit sticks, even if it doesn't contain it.
		moved{"abcd", "1* 0..1, 2* 2..3 ^0", 2, ins(1, "X"), "aXbcd", "1* 0..2, 2* 3..4"},
	)
	// Without an edit all Ups stay.
	for _, s := range []string{"1* 0..1, 2* 2..3 ^0", "1* 1..3, 2* 0..4 ^0, 3* 4..4 ^1"} {
		holdSettle(t, state("abcd", 1, s), state("abcd", 1, s))
	}
}

// P16.2: to edit

func TestEditSeveral(t *testing.T) {
	x := state("abcd", 1, "1* 1..3, 2* 3..4")
	for _, c := range []struct {
		l    []api.Edit
		want State
	}{
		{nil, x},
		{[]api.Edit{ins(0, "")}, x},
		{[]api.Edit{ins(0, "X"), ins(4, "Y")}, state("XabcdY", 1, "1* 2..4, 2* 4..5")},
		{[]api.Edit{ins(1, "X"), ins(3, "Y")}, state("aXbcYd", 1, "1* 1..5, 2* 5..6")},
		{[]api.Edit{put(0, 1, ""), put(1, 1, "XY"), put(2, 1, ""), put(3, 1, "Z")}, state("XYZ", 1, "1* 0..3, 2* 3..3")},
		{[]api.Edit{put(0, 1, "W"), put(1, 2, ""), put(3, 1, "")}, state("W", 1, "1* 0..1, 2* 1..1")},
		{[]api.Edit{ins(1, "X"), ins(1, "Y"), ins(1, "Z")}, state("aXYZbcd", 1, "1* 1..6, 2* 6..7")},
		{[]api.Edit{ins(3, "X"), ins(3, "Y"), put(3, 1, "Z")}, state("abcXYZ", 1, "1* 1..6, 2* 6..6")},
		{[]api.Edit{put(3, 1, "X"), ins(4, "Y"), ins(4, "Z")}, state("abcXYZ", 1, "1* 1..4, 2* 4..4")},
	} {
		holdEdit(t, x, c.l, c.want)
	}
	// The field that sticks takes all that is inserted at its ends.
	y := state("", 2, "1* 0..0, 2* 0..0, 3* 0..0")
	holdEdit(t, y, []api.Edit{ins(0, "X"), ins(0, "Y")}, state("XY", 2, "1* 2..2, 2* 0..2, 3* 2..2"))
	y.Active = 4
	holdEdit(t, y, []api.Edit{ins(0, "X"), ins(0, "Y")}, state("XY", 4, "1* 2..2, 2* 2..2, 3* 2..2"))
}

// The Ups change with each edit, from the last one on: what sticks with a field
// at an edit hangs on the Ups behind the edits after it.
func TestEditFromTheLastOne(t *testing.T) {
	x := state("abcd", 2, "1* 0..1, 2* 2..3 ^0")
	holdEdit(t, x, []api.Edit{ins(1, "X")}, state("aXbcd", 2, "1* 0..2, 2* 3..4"))
	holdEdit(t, x, []api.Edit{ins(1, "X"), ins(4, "")}, state("aXbcd", 2, "1* 0..1, 2* 3..4"))
	holdEdit(t, x, []api.Edit{ins(0, ""), ins(1, "X")}, state("aXbcd", 2, "1* 0..2, 2* 3..4"))
	holdEdit(t, x, []api.Edit{ins(1, "X"), ins(1, "Y")}, state("aXYbcd", 2, "1* 0..3, 2* 4..5"))
}

func TestEditWhereverItIs(t *testing.T) {
	x := state("<ab-ab>", 1, "1* 1..3, 1 4..6, 0* 6..6")
	for _, c := range []struct {
		l    []api.Edit
		want State
	}{
		{[]api.Edit{ins(1, "X")}, state("<Xab-Xab>", 1, "1* 1..4, 1 5..8, 0* 8..8")},
		{[]api.Edit{ins(2, "X")}, state("<aXb-aXb>", 1, "1* 1..4, 1 5..8, 0* 8..8")},
		{[]api.Edit{ins(3, "X")}, state("<abX-abX>", 1, "1* 1..4, 1 5..8, 0* 8..8")},
		{[]api.Edit{put(1, 2, "")}, state("<->", 1, "1* 1..1, 1 2..2, 0* 2..2")},
		// In a mirror, and beside it.
		{[]api.Edit{ins(5, "X")}, state("<ab-ab>", 1, "1* 1..3, 1 4..6, 0* 6..6")},
		{[]api.Edit{put(4, 2, "")}, state("<ab-ab>", 1, "1* 1..3, 1 4..6, 0* 6..6")},
		{[]api.Edit{put(4, 1, "XYZ")}, state("<ab-XYZab>", 1, "1* 1..3, 1 7..9, 0* 9..9")},
		{[]api.Edit{ins(4, "X")}, state("<ab-Xab>", 1, "1* 1..3, 1 5..7, 0* 7..7")},
		{[]api.Edit{ins(6, "X")}, state("<ab-abX>", 1, "1* 1..3, 1 4..6, 0* 7..7")},
		// Outside of all fields.
		{[]api.Edit{ins(0, "X")}, state("X<ab-ab>", 1, "1* 2..4, 1 5..7, 0* 7..7")},
		{[]api.Edit{ins(7, "X")}, state("<ab-ab>X", 1, "1* 1..3, 1 4..6, 0* 6..6")},
		{[]api.Edit{put(6, 1, "")}, state("<ab-ab", 1, "1* 1..3, 1 4..6, 0* 6..6")},
		// Across several.
		{[]api.Edit{put(2, 3, "X")}, state("<aXaX>", 1, "1* 1..3, 1 3..5, 0* 5..5")},
		{[]api.Edit{put(0, 7, "")}, state("", 1, "1* 0..0, 1 0..0, 0* 0..0")},
		{[]api.Edit{put(0, 7, "X")}, state("XX", 1, "1* 0..1, 1 1..2, 0* 2..2")},
		// Several.
		{[]api.Edit{ins(0, "Y"), ins(2, "X"), put(5, 1, "ZZ"), ins(7, "W")}, state("Y<aXb-aXbZZ>W", 1, "1* 2..5, 1 6..9, 0* 11..11")},
	} {
		holdEdit(t, x, c.l, c.want)
	}
	// The active number has no primary.
	for _, active := range []int{2, -1, math.MaxInt} {
		x.Active = active
		holdEdit(t, x, []api.Edit{ins(1, "X")}, state("<Xab-ab>", active, "1* 2..4, 1 5..7, 0* 7..7"))
		holdEdit(t, x, []api.Edit{ins(3, "X")}, state("<abX-ab>", active, "1* 1..3, 1 5..7, 0* 7..7"))
		holdEdit(t, x, []api.Edit{ins(2, "X")}, state("<aXb-aXb>", active, "1* 1..4, 1 5..8, 0* 8..8"))
	}
	holdEdit(t, state("ab", 1, "1 0..2"), []api.Edit{ins(2, "X")}, state("abX", 1, "1 0..2"))
	// It has several: the first one sticks, the others do not.
	holdEdit(t, state("aa", 1, "1* 0..1, 1* 1..2"), []api.Edit{ins(1, "X")}, state("aXaX", 1, "1* 0..2, 1* 2..4"))
	holdEdit(t, state("aa", 1, "1* 1..2, 1* 0..1"), []api.Edit{ins(1, "X")}, state("XaXa", 1, "1* 2..4, 1* 0..2"))
	// There are no fields, so that there is nothing but the text.
	holdEdit(t, state("ab", 1, ""), []api.Edit{ins(1, "X"), put(1, 1, "")}, state("aX", 1, ""))
	holdEdit(t, State{}, []api.Edit{ins(0, "X")}, state("X", 0, ""))
}
