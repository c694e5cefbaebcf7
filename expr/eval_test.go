package expr_test

import (
	"math/rand/v2"
	"slices"
	"testing"

	"retrofit/api"
	"retrofit/expr"
)

// P11.2

func TestEvalByHand(t *testing.T) {
	env := expr.Env{Fields: [][]api.Int{ints(7), ints(1, -5, 30)}, At: 1}
	for i, x := range []struct {
		code []expr.Ins
		want int64
	}{
		{of(num(-3)), -3},
		{of(elem(0, 0)), 7},
		{of(elem(1, 2)), 30},
		{of(here(1)), -5},
		{of(op(expr.Place)), 1},
		{of(num(3), num(4), op(expr.Add)), 7},
		{of(num(3), num(4), op(expr.Sub)), -1},
		{of(num(3), num(-4), op(expr.Mul)), -12},
		{of(num(-7), num(2), op(expr.Quo)), -3},
		{of(num(-7), num(2), op(expr.Rem)), -1},
		{of(num(7), num(-2), op(expr.Quo)), -3},
		{of(num(7), num(-2), op(expr.Rem)), 1},
		{of(num(3), op(expr.Neg)), -3},
		{of(num(0), op(expr.Neg)), 0},
		{of(num(-3), op(expr.Neg)), 3},
		{of(num(-3), num(2), op(expr.Least)), -3},
		{of(num(2), num(-3), op(expr.Least)), -3},
		{of(num(2), num(2), op(expr.Least)), 2},
		{of(num(-3), num(2), op(expr.Great)), 2},
		{of(num(2), num(-3), op(expr.Great)), 2},
		{of(num(-3), num(-3), op(expr.Great)), -3},
		{of(num(2), num(2), op(expr.Same)), 1},
		{of(num(2), num(-2), op(expr.Same)), 0},
		{of(num(2), num(3), op(expr.Less)), 1},
		{of(num(2), num(2), op(expr.Less)), 0},
		{of(num(3), num(2), op(expr.Less)), 0},
		{of(num(-3), num(2), op(expr.Less)), 1},
		{of(num(0), op(expr.Not)), 1},
		{of(num(1), op(expr.Not)), 0},
		{of(num(-1), op(expr.Not)), 0},
		{of(num(1), num(5), num(6), op(expr.Pick)), 5},
		{of(num(-9), num(5), num(6), op(expr.Pick)), 5},
		{of(num(0), num(5), num(6), op(expr.Pick)), 6},
		{of(num(5), num(1), op(expr.Need)), 5},
		{of(num(0), num(-1), op(expr.Need)), 0},
		{of(num(10), here(1), num(3), op(expr.Mul), op(expr.Sub)), 25},
		{of(expr.Ins{Op: expr.Place, A: 7, B: 7, K: top}), 1},
		{of(expr.Ins{Op: expr.Here, A: 1, B: 2}), -5},
		{chain(16), 16},
		{sum(63), 32},
	} {
		if y, e := expr.Eval(x.code, env); e != api.OK || y != ints(x.want)[0] {
			t.Error(i, y, e)
		}
	}
}

func TestEvalErrors(t *testing.T) {
	env := expr.Env{Fields: [][]api.Int{ints(7), {}, ints(1, -5, 30)}, At: 3}
	below := expr.Env{Fields: env.Fields, At: -1}
	for i, x := range []struct {
		code []expr.Ins
		env  expr.Env
		want api.Errno
	}{
		{nil, env, api.ErrForm},
		{sum(65), env, api.ErrFull},
		{of(elem(0, 1)), env, api.ErrRange},
		{of(elem(0, 7)), env, api.ErrRange},
		{of(elem(1, 0)), env, api.ErrRange},
		{of(elem(2, 3)), env, api.ErrRange},
		{of(elem(3, 0)), env, api.ErrRange},
		{of(elem(7, 0)), env, api.ErrRange},
		{of(elem(0, 0)), expr.Env{}, api.ErrRange},
		{of(elem(-1, 0)), env, api.ErrForm},
		{of(elem(0, -1)), env, api.ErrForm},
		{of(here(0)), env, api.ErrRange},
		{of(here(1)), env, api.ErrRange},
		{of(here(2)), env, api.ErrRange},
		{of(here(3)), env, api.ErrRange},
		{of(here(2)), below, api.ErrRange},
		{of(here(2)), expr.Env{Fields: env.Fields, At: maxInt}, api.ErrRange},
		{of(here(2)), expr.Env{Fields: env.Fields, At: minInt}, api.ErrRange},
		{of(here(0)), expr.Env{}, api.ErrRange},
		{of(op(expr.Place)), below, api.ErrRange},
		{of(op(expr.Place)), expr.Env{At: minInt}, api.ErrRange},
		{of(num(1), num(0), op(expr.Quo)), env, api.ErrArg},
		{of(num(1), num(0), op(expr.Rem)), env, api.ErrArg},
		{of(great(top), num(1), op(expr.Add)), env, api.ErrRange},
		{of(great(bottom), num(1), op(expr.Sub)), env, api.ErrRange},
		{of(great(top), num(2), op(expr.Mul)), env, api.ErrRange},
		{of(num(1), num(0), op(expr.Need)), env, api.ErrFail},
		{of(num(0), num(0), op(expr.Need)), env, api.ErrFail},
		// The first error is the answer.
		{of(elem(0, 1), num(0), op(expr.Need)), env, api.ErrRange},
		{of(num(1), num(0), op(expr.Need), elem(0, 1), op(expr.Add)), env, api.ErrFail},
		{of(num(1), num(0), op(expr.Quo), num(1), num(0), op(expr.Need), op(expr.Add)), env, api.ErrArg},
		{of(great(top), great(top), op(expr.Mul), num(0), op(expr.Quo)), env, api.ErrRange},
		{of(num(0), num(0), op(expr.Rem), great(top), great(top), op(expr.Mul), op(expr.Add)), env, api.ErrArg},
		// What isn't picked is done all the same.
		{of(num(1), num(2), num(1), num(0), op(expr.Quo), op(expr.Pick)), env, api.ErrArg},
		{of(num(0), elem(0, 1), num(2), op(expr.Pick)), env, api.ErrRange},
		// A code that isn't well formed isn't begun.
		{of(num(1), num(0), op(expr.Need), num(1)), env, api.ErrForm},
		{of(num(1), num(0), op(expr.Need), op(18)), env, api.ErrForm},
		{of(elem(0, 1), expr.Ins{Op: expr.Neg, K: api.Int{Neg: true}}), env, api.ErrForm},
	} {
		if y, e := expr.Eval(x.code, x.env); e != x.want || !zero(y) {
			t.Error(i, y, e)
		}
	}
}

func TestEvalPlaces(t *testing.T) {
	for _, at := range []int{0, 1, 7, 8, 1 << 40, maxInt} {
		if y, e := expr.Eval(of(op(expr.Place)), expr.Env{At: at}); e != api.OK || y != ints(int64(at))[0] {
			t.Error(at, y, e)
		}
	}
}

// TestEvalElements goes over all fields and elements of the most that a
// component has.
func TestEvalElements(t *testing.T) {
	env := expr.Env{}
	for f := range 8 {
		env.Fields = append(env.Fields, ints(int64(10*f), int64(10*f+1), int64(10*f+2), int64(10*f+3))[:f/2+1])
	}
	for f := range 8 {
		for k := -1; k < 9; k++ {
			want, err := ints(int64(10*f + k))[0], api.OK
			if k < 0 || k > f/2 {
				want, err = api.Int{}, api.ErrRange
			}
			env.At = k
			if y, e := expr.Eval(of(here(f)), env); e != err || y != want {
				t.Error(f, k, y, e)
			}
			if k < 0 || k > 7 {
				continue
			}
			env.At = -1
			if y, e := expr.Eval(of(elem(f, k)), env); e != err || y != want {
				t.Error(f, k, y, e)
			}
		}
	}
	// More than a formula can name is there for the place alone.
	env = expr.Env{Fields: [][]api.Int{slices.Repeat(ints(4), 100)}, At: 99}
	if y, e := expr.Eval(of(here(0)), env); e != api.OK || y != ints(4)[0] {
		t.Error(y, e)
	}
}

// TestEvalFormless goes over all places of a number that isn't in form, at all
// instructions.
func TestEvalFormless(t *testing.T) {
	for _, odd := range formless() {
		env := expr.Env{Fields: [][]api.Int{{odd}}}
		for i, code := range [][]expr.Ins{of(elem(0, 0)), of(here(0))} {
			if y, e := expr.Eval(code, env); e != api.ErrForm || !zero(y) {
				t.Error(i, y, e)
			}
		}
		for row, r := range ops {
			for at := range r.takes {
				want := api.ErrArg
				if r.op == expr.Pick && at > 0 || r.op == expr.Need && at == 0 {
					want = api.ErrForm
				}
				// The number that is picked is the one that isn't in form.
				code := alone(row)
				if r.op == expr.Pick && at == 2 {
					code[0] = num(0)
				}
				code[at] = elem(0, 0)
				if y, e := expr.Eval(code, env); e != want || !zero(y) {
					t.Error(r.word, at, y, e)
				}
			}
		}
		// One that isn't picked does no harm.
		for i, code := range [][]expr.Ins{
			of(num(1), num(5), here(0), op(expr.Pick)), of(num(0), here(0), num(5), op(expr.Pick)),
		} {
			if y, e := expr.Eval(code, env); e != api.OK || y != ints(5)[0] {
				t.Error(i, y, e)
			}
		}
		// One that is picked, or needed, is ErrArg for the next that reckons.
		for i, code := range [][]expr.Ins{
			of(num(1), here(0), num(5), op(expr.Pick), op(expr.Neg)),
			of(here(0), num(1), op(expr.Need), num(1), op(expr.Add)),
			of(here(0), num(0), op(expr.Need)),
			of(num(1), here(0), num(0), op(expr.Quo), op(expr.Need)),
		} {
			want := api.ErrArg
			if i == 2 {
				want = api.ErrFail
			}
			if y, e := expr.Eval(code, env); e != want || !zero(y) {
				t.Error(i, y, e)
			}
		}
	}
}

// TestEvalPairs goes over all instructions, and all pairs and triples of some
// numbers, of both signs and up to the ends.
func TestEvalPairs(t *testing.T) {
	list := append(ints(0, 1, -1, 2, -2, 3, -7, maxInt, minInt), formless()...)
	list = append(list, top, bottom, api.Int{Hi: 1}, api.Int{Neg: true, Hi: 1}, api.Int{Lo: maxWord},
		api.Int{Hi: 1 << 62}, api.Int{Neg: true, Hi: 1 << 62}, api.Int{Lo: 1 << 63}, api.Int{Neg: true, Lo: 1<<63 + 1})
	env := expr.Env{Fields: [][]api.Int{{{}}, {{}}, {{}}}}
	seen := map[api.Errno]int{}
	for _, r := range ops[4:] {
		code := of(elem(0, 0), here(1), elem(2, 0))[:r.takes]
		code = append(code, op(r.op))
		for _, x := range list {
			for _, y := range list {
				for k, z := range list {
					if k > 0 && r.takes < 3 {
						break
					}
					env.Fields[0][0], env.Fields[1][0], env.Fields[2][0] = x, y, z
					want, err := readEval(code, env)
					seen[err]++
					if got, e := expr.Eval(code, env); e != err || got != want {
						t.Fatal(r.word, x, y, z, got, e, want, err)
					}
				}
			}
		}
	}
	for _, e := range []api.Errno{api.OK, api.ErrArg, api.ErrForm, api.ErrRange, api.ErrFail} {
		if seen[e] == 0 {
			t.Error(e, seen)
		}
	}
}

func TestEvalMany(t *testing.T) {
	dice := rand.New(rand.NewPCG(3, 11))
	seen := map[api.Errno]int{}
	for range 100000 {
		code := someCode(dice)
		if dice.IntN(8) == 0 {
			code = someTurn(dice, code)
		}
		env := someEnv(dice)
		want, err := readEval(code, env)
		seen[err]++
		if y, e := expr.Eval(code, env); e != err || y != want {
			t.Fatal(expr.Show(code), env, y, e, want, err)
		}
	}
	for _, e := range []api.Errno{api.OK, api.ErrArg, api.ErrForm, api.ErrRange, api.ErrFail} {
		if seen[e] < 100 {
			t.Error(e, seen)
		}
	}
}

// P11.5

// used: whether a formula uses an element of an environment.
func used(code []expr.Ins, field, at, place int) bool {
	return slices.ContainsFunc(code, func(i expr.Ins) bool {
		return i.A == field && (i.Op == expr.Elem && i.B == at || i.Op == expr.Here && at == place)
	})
}

// TestAnswersHangOnUses turns what a formula doesn't use, and puts more
// elements and fields behind, as far as it doesn't use these.
func TestAnswersHangOnUses(t *testing.T) {
	dice := rand.New(rand.NewPCG(4, 11))
	for range 50000 {
		code, env := someCode(dice), someEnv(dice)
		was, wasError := expr.Eval(code, env)
		for f := range env.Fields {
			list := slices.Clone(env.Fields[f])
			for k := range list {
				if !used(code, f, k, env.At) {
					list[k] = append(formless(), ints(99)...)[dice.IntN(7)]
				}
			}
			for !used(code, f, len(list), env.At) && len(list) < 9 {
				list = append(list, formless()[0])
			}
			env.Fields[f] = list
		}
		if now, e := expr.Eval(code, env); now != was || e != wasError {
			t.Fatal(expr.Show(code), env, was, wasError, now, e)
		}
	}
}

// TestSameAnswerTwice holds that nothing is kept from call to call.
func TestSameAnswerTwice(t *testing.T) {
	env := expr.Env{Fields: [][]api.Int{ints(1, 2, 3)}, At: 2}
	for range 3 {
		if y, e := expr.Eval(of(here(0), op(expr.Place), op(expr.Mul)), env); e != api.OK || y != ints(6)[0] {
			t.Error(y, e)
		}
		if y, e := expr.Eval(of(here(0), num(0), op(expr.Quo)), env); e != api.ErrArg || !zero(y) {
			t.Error(y, e)
		}
	}
}
