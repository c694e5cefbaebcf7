package wide

import (
	"cmp"
	"math/bits"

	"retrofit/api"
)

// size is a number's size, without its sign. Those of numbers in form fit
// below 2^127, so that a sum of two of them still stands in 128 bits.
type size struct {
	hi, lo uint64
}

func sizeOf(x api.Int) size { return size{x.Hi, x.Lo} }

func (a size) zero() bool { return a.hi == 0 && a.lo == 0 }

func (a size) fits() bool { return a.hi < 1<<63 }

func compare(a, b size) int {
	if a.hi != b.hi {
		return cmp.Compare(a.hi, b.hi)
	}
	return cmp.Compare(a.lo, b.lo)
}

// plus asks that the sum is below 2^128.
func plus(a, b size) size {
	lo, carry := bits.Add64(a.lo, b.lo, 0)
	hi, _ := bits.Add64(a.hi, b.hi, carry)
	return size{hi, lo}
}

// minus asks that b isn't above a.
func minus(a, b size) size {
	lo, borrow := bits.Sub64(a.lo, b.lo, 0)
	hi, _ := bits.Sub64(a.hi, b.hi, borrow)
	return size{hi, lo}
}

// times answers false if the product isn't below 2^128.
func times(a, b size) (size, bool) {
	if a.hi == 0 {
		a, b = b, a
	}
	if b.hi != 0 {
		return size{}, false
	}
	over, mid := bits.Mul64(a.hi, b.lo)
	top, lo := bits.Mul64(a.lo, b.lo)
	hi, carry := bits.Add64(top, mid, 0)
	return size{hi, lo}, over == 0 && carry == 0
}

// divide answers the quotient and what is left; it asks that a fits and that
// b isn't 0.
func divide(a, b size) (size, size) {
	if b.hi != 0 {
		return divideLong(a, b)
	}
	// What the upper word leaves is below b.lo, as Div64 wants it.
	hi, left := a.hi/b.lo, a.hi%b.lo
	lo, rest := bits.Div64(left, a.lo, b.lo)
	return size{hi, lo}, size{0, rest}
}

// divideLong is divide where b is 2^64 or more, so that the quotient is one
// word. It is first guessed from b's leading 64 bits; the guess less 1 is the
// quotient or 1 too small, never too great.
func divideLong(a, b size) (size, size) {
	shift := uint(bits.LeadingZeros64(b.hi))
	lead := b.hi<<shift | b.lo>>(64-shift)
	guess, _ := bits.Div64(a.hi>>1, a.hi<<63|a.lo>>1, lead)
	guess >>= 63 - shift
	if guess != 0 {
		guess--
	}
	taken, _ := times(b, size{0, guess})
	rest := minus(a, taken)
	if compare(rest, b) >= 0 {
		guess++
		rest = minus(rest, b)
	}
	return size{0, guess}, rest
}
