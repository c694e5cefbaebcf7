// Package wide is layer 1: great whole numbers. See shared/doc/01-wide.md.
package wide

import (
	"math"

	"retrofit/api"
)

// Form: whether a number is in form.
func Form(x api.Int) bool {
	if x.Neg {
		return sizeOf(x).fits() && !sizeOf(x).zero()
	}
	return sizeOf(x).fits()
}

// OfWord: a word's number.
func OfWord(n uint64) api.Int { return api.Int{Lo: n} }

// Of: an int's.
func Of(n int) api.Int {
	if n < 0 {
		// The word is negated, not the int: the least int has no opposite.
		return api.Int{Neg: true, Lo: -uint64(n)}
	}
	return OfWord(uint64(n))
}

// Sign: of a number.
func Sign(x api.Int) int {
	switch {
	case !Form(x) || sizeOf(x).zero():
		return 0
	case x.Neg:
		return -1
	}
	return 1
}

// Cmp: which of two numbers is greater.
func Cmp(x, y api.Int) int {
	switch {
	case !bothForm(x, y):
		return 0
	case x.Neg && y.Neg:
		return compare(sizeOf(y), sizeOf(x))
	case x.Neg:
		return -1
	case y.Neg:
		return 1
	}
	return compare(sizeOf(x), sizeOf(y))
}

// Neg: the opposite number.
func Neg(x api.Int) api.Int {
	if !Form(x) {
		return api.Int{}
	}
	return number(!x.Neg, sizeOf(x))
}

// Small: the int that it is; false: there is none.
func Small(x api.Int) (int, bool) {
	if !Form(x) || x.Hi != 0 {
		return 0, false
	}
	if x.Neg {
		if x.Lo > uint64(math.MaxInt)+1 {
			return 0, false
		}
		return int(-x.Lo), true
	}
	if x.Lo > uint64(math.MaxInt) {
		return 0, false
	}
	return int(x.Lo), true
}

func bothForm(x, y api.Int) bool { return Form(x) && Form(y) }
