package vt

import (
	"bytes"
	"strconv"

	"stylus/utf"
)

// escape is the byte that sequences begin with.
const escape = 27

// mostAhead is how many bytes a sequence with [ may have ahead of its last one.
const mostAhead = 30

// A number of more than mostDigits digits counts as mostNumber, zeros included.
const (
	mostDigits = 3
	mostNumber = 999
)

// read does what b begins with, and returns its number of bytes, which is 0 if
// more of them are needed to tell.
func (t *Term) read(b []byte) int {
	if len(b) > 0 && b[0] == escape {
		return t.readEscape(b)
	}
	r, n := utf.First(b)
	if n > 0 {
		t.put(r) // a byte below 32, or 127, is a rune that has no effect
	}
	return n
}

// readEscape is read for bytes that begin with an escape.
func (t *Term) readEscape(b []byte) int {
	switch {
	case len(b) == 1:
		return 0
	case b[1] == '[':
		return t.readSequence(b)
	}
	return 2
}

// readSequence is read for bytes that begin with an escape and a [.
func (t *Term) readSequence(b []byte) int {
	n := 2
	for n < len(b) && n < 2+mostAhead && b[n] >= 32 && b[n] <= 63 {
		n++
	}
	if n == len(b) {
		return 0
	}
	// A byte that breaks the sequence is skipped with it, as a last one is that
	// has no effect.
	t.end(b[2:n], b[n])
	return n + 1
}

// end does what a sequence is for, which is told by its last byte.
func (t *Term) end(ahead []byte, last byte) {
	do, is := effects()[last]
	if !is {
		return
	}
	if l, are := numbers(ahead); are {
		do(t, l)
	}
}

// numbers returns the numbers that bytes consist of, and whether they do so.
func numbers(b []byte) ([]int, bool) {
	if len(b) == 0 {
		return nil, true
	}
	var l []int
	for _, digits := range bytes.Split(b, []byte{';'}) {
		n, is := number(digits)
		if !is {
			return nil, false
		}
		l = append(l, n)
	}
	return l, true
}

// number returns the number that digits are, and whether they are digits.
func number(digits []byte) (int, bool) {
	for _, c := range digits {
		if c < '0' || c > '9' {
			return 0, false
		}
	}
	if len(digits) > mostDigits {
		return mostNumber, true
	}
	n, err := strconv.Atoi(string(digits))
	return n, err == nil
}
