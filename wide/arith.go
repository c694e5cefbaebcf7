package wide

import "retrofit/api"

// Add: the sum; ErrArg, ErrRange.
func Add(x, y api.Int) (api.Int, api.Errno) {
	if !bothForm(x, y) {
		return api.Int{}, api.ErrArg
	}
	a, b := sizeOf(x), sizeOf(y)
	switch {
	case x.Neg == y.Neg:
		return bounded(x.Neg, plus(a, b))
	case compare(a, b) < 0:
		return number(y.Neg, minus(b, a)), api.OK
	}
	return number(x.Neg, minus(a, b)), api.OK
}

// Sub: the difference; ErrArg, ErrRange.
func Sub(x, y api.Int) (api.Int, api.Errno) {
	// Neg would hide that y isn't in form.
	if !bothForm(x, y) {
		return api.Int{}, api.ErrArg
	}
	return Add(x, Neg(y))
}

// Mul: the product; ErrArg, ErrRange.
func Mul(x, y api.Int) (api.Int, api.Errno) {
	if !bothForm(x, y) {
		return api.Int{}, api.ErrArg
	}
	z, ok := times(sizeOf(x), sizeOf(y))
	if !ok {
		return api.Int{}, api.ErrRange
	}
	return bounded(x.Neg != y.Neg, z)
}

// Quo: the whole part of the quotient; ErrArg.
func Quo(x, y api.Int) (api.Int, api.Errno) {
	if !divisible(x, y) {
		return api.Int{}, api.ErrArg
	}
	whole, _ := divide(sizeOf(x), sizeOf(y))
	return number(x.Neg != y.Neg, whole), api.OK
}

// Rem: what is left; ErrArg.
func Rem(x, y api.Int) (api.Int, api.Errno) {
	if !divisible(x, y) {
		return api.Int{}, api.ErrArg
	}
	_, left := divide(sizeOf(x), sizeOf(y))
	return number(x.Neg, left), api.OK
}

func divisible(x, y api.Int) bool { return bothForm(x, y) && !sizeOf(y).zero() }

// number is in form, if the size fits: 0 has no sign.
func number(neg bool, a size) api.Int {
	return api.Int{Neg: neg && !a.zero(), Hi: a.hi, Lo: a.lo}
}

func bounded(neg bool, a size) (api.Int, api.Errno) {
	if !a.fits() {
		return api.Int{}, api.ErrRange
	}
	return number(neg, a), api.OK
}
