// Package word is layer 1: see shared/doc/01-word.md.
package word

import "eddywheel/api"

const (
	kindBits          = 3
	kindMask api.Word = 1<<kindBits - 1
)

// Int is a number as a word.
func Int(n int) (api.Word, api.Errno) {
	if !inRange(n) {
		return 0, api.ErrOver
	}
	return api.Word(n)<<kindBits | api.IsInt, api.OK
}

// ToInt is the number that a word is.
func ToInt(w api.Word) (int, bool) {
	if w&kindMask != api.IsInt {
		return 0, false
	}
	// The shift is one of a signed number, so that the payload of a negative number gets its sign back.
	n := int(w) >> kindBits
	if !inRange(n) {
		return 0, false
	}
	return n, true
}

// Of is a place, a name, or a handle, as a word.
func Of(kind int, n int) (api.Word, api.Errno) {
	if !isNumbered(kind) || n < 0 || n >= api.MaxInt {
		return 0, api.ErrArg
	}
	return api.Word(n)<<kindBits | api.Word(kind), api.OK
}

// To is the number of a place, a name, or a handle.
func To(kind int, w api.Word) (int, bool) {
	if !isNumbered(kind) || w&kindMask != api.Word(kind) || w>>kindBits >= api.MaxInt {
		return 0, false
	}
	return int(w >> kindBits), true
}

// Bool is the mark of something that is so, or not.
func Bool(is bool) api.Word {
	if is {
		return api.True
	}
	return api.False
}

// May tells whether a word may be.
func May(w api.Word) bool {
	switch w {
	case api.Nil, api.False, api.True, api.Unit:
		return true
	}
	if _, ok := ToInt(w); ok {
		return true
	}
	_, ok := To(int(w&kindMask), w)
	return ok
}

// Do is what comes of numbers.
func Do(op byte, a, b api.Word) (api.Word, api.Errno) {
	if !isOperation(op) {
		return 0, api.ErrArg
	}
	x, xIs := ToInt(a)
	y, yIs := ToInt(b)
	if !xIs || !yIs {
		return 0, api.ErrKind
	}
	return compute(op, x, y)
}

func compute(op byte, x, y int) (api.Word, api.Errno) {
	switch op {
	case '+':
		return Int(x + y)
	case '-':
		return Int(x - y)
	case '*':
		return multiply(x, y)
	case '<':
		return Bool(x < y), api.OK
	case '=':
		return Bool(x == y), api.OK
	}
	return divide(op, x, y)
}

func multiply(x, y int) (api.Word, api.Errno) {
	// The product of two numbers that are in range may wrap round in an int, so it is asked for ahead whether it fits.
	if x != 0 && abs(y) > (api.MaxInt-1)/abs(x) {
		return 0, api.ErrOver
	}
	return Int(x * y)
}

func divide(op byte, x, y int) (api.Word, api.Errno) {
	if y == 0 {
		return 0, api.ErrZero
	}
	if op == '/' {
		return Int(x / y)
	}
	return Int(x % y)
}

func isOperation(op byte) bool {
	switch op {
	case '+', '-', '*', '/', '%', '<', '=':
		return true
	}
	return false
}

func isNumbered(kind int) bool {
	return kind == api.IsAt || kind == api.IsName || kind == api.IsHand
}

func inRange(n int) bool {
	return -api.MaxInt < n && n < api.MaxInt
}

func abs(n int) int {
	if n < 0 {
		return -n
	}
	return n
}
