package expr

import (
	"retrofit/api"
	"retrofit/wide"
)

// What reckons with one, two or three numbers, and with nothing else.
type (
	one   func(x api.Int) (api.Int, api.Errno)
	two   func(x, y api.Int) (api.Int, api.Errno)
	three func(x, y, z api.Int) (api.Int, api.Errno)
)

func ofOne(f one) deed {
	return func(_ Ins, _ Env, taken []api.Int) (api.Int, api.Errno) { return f(taken[0]) }
}

func ofTwo(f two) deed {
	return func(_ Ins, _ Env, taken []api.Int) (api.Int, api.Errno) { return f(taken[0], taken[1]) }
}

func ofThree(f three) deed {
	return func(_ Ins, _ Env, taken []api.Int) (api.Int, api.Errno) { return f(taken[0], taken[1], taken[2]) }
}

// withZero is f of 0 and a number.
func withZero(f two) one {
	return func(x api.Int) (api.Int, api.Errno) { return f(api.Int{}, x) }
}

// swapped is f of the second number and the first.
func swapped(f two) two {
	return func(x, y api.Int) (api.Int, api.Errno) { return f(y, x) }
}

// chosen is the first number, if the question's answer isn't 0, else the
// second.
func chosen(question two) two {
	return func(x, y api.Int) (api.Int, api.Errno) {
		answer, e := question(x, y)
		if e != api.OK {
			return api.Int{}, e
		}
		return pick(answer, x, y)
	}
}

func same(x, y api.Int) (api.Int, api.Errno) { return truth(x, y, x == y) }

func less(x, y api.Int) (api.Int, api.Errno) { return truth(x, y, wide.Cmp(x, y) < 0) }

// truth is 1 or 0, where what was asked of both numbers means something.
func truth(x, y api.Int, is bool) (api.Int, api.Errno) {
	switch {
	case !wide.Form(x) || !wide.Form(y):
		return api.Int{}, api.ErrArg
	case is:
		return wide.Of(1), api.OK
	}
	return wide.Of(0), api.OK
}

// pick reckons with x alone: what it picks may be of no form.
func pick(x, y, z api.Int) (api.Int, api.Errno) {
	switch {
	case !wide.Form(x):
		return api.Int{}, api.ErrArg
	case wide.Sign(x) != 0:
		return y, api.OK
	}
	return z, api.OK
}

// need reckons with y alone: x may be of no form.
func need(x, y api.Int) (api.Int, api.Errno) {
	switch {
	case !wide.Form(y):
		return api.Int{}, api.ErrArg
	case wide.Sign(y) == 0:
		return api.Int{}, api.ErrFail
	}
	return x, api.OK
}
