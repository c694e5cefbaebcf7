package expr_test

import (
	"math/rand/v2"
	"slices"
	"strings"
	"testing"

	"retrofit/api"
	"retrofit/expr"
)

// chain puts n numbers, and adds them up when all of them stand.
func chain(n int) []expr.Ins {
	code := []expr.Ins{}
	for range n {
		code = append(code, num(1))
	}
	for range n - 1 {
		code = append(code, op(expr.Add))
	}
	return code
}

// sum has n instructions, 3 or more; at most 3 numbers stand.
func sum(n int) []expr.Ins {
	code := of(num(1))
	for len(code)+2 <= n {
		code = append(code, num(1), op(expr.Add))
	}
	if len(code) < n {
		code = append(code, op(expr.Neg))
	}
	return code
}

// alone is a code in which a row's instruction is last, and has what it takes.
func alone(row int) []expr.Ins {
	code := []expr.Ins{}
	for range ops[row].takes {
		code = append(code, num(1))
	}
	return append(code, op(ops[row].op))
}

// malformed are codes of 64 instructions or less that aren't well formed.
func malformed() [][]expr.Ins {
	list := [][]expr.Ins{nil, {}, of(num(1), num(1)), make([]expr.Ins, 1), make([]expr.Ins, 64), chain(17), chain(32)}
	for row, r := range ops {
		code := alone(row)
		if r.takes > 0 {
			list = append(list, code[1:])
		}
		list = append(list, append(of(num(1)), code...), append(slices.Clone(code), num(1)))
		for at := range code {
			for _, n := range []int{-1, 8, 9, 256, 257, 1 << 32, maxInt, minInt} {
				turned := slices.Clone(code)
				turned[at].A = n
				list = append(list, turned)
				turned = slices.Clone(code)
				turned[at].B = n
				list = append(list, turned)
			}
			for _, x := range formless() {
				turned := slices.Clone(code)
				turned[at].K = x
				list = append(list, turned)
			}
			for _, n := range []int{0, -1, 18, 19, 256 + 1, 1<<32 + 1, maxInt, minInt, minInt + 1} {
				turned := slices.Clone(code)
				turned[at].Op = n
				list = append(list, turned)
			}
		}
	}
	return list
}

func zero(x api.Int) bool { return x == api.Int{} }

// P11.1

func TestCheckEachRow(t *testing.T) {
	for row := range ops {
		code := alone(row)
		if e := expr.Check(code); e != api.OK {
			t.Error(row, e)
		}
		for n := range 8 {
			for _, k := range []api.Int{{}, top, bottom, {Lo: 1}} {
				code[len(code)-1] = expr.Ins{Op: ops[row].op, A: n, B: 7 - n, K: k}
				if e := expr.Check(code); e != api.OK {
					t.Error(row, n, k, e)
				}
			}
		}
	}
}

func TestCheckMalformed(t *testing.T) {
	for i, code := range malformed() {
		if e := expr.Check(code); e != api.ErrForm {
			t.Error(i, code, e)
		}
	}
}

func TestCheckLengths(t *testing.T) {
	for n := 1; n <= 64; n++ {
		if code := sum(n); len(code) != n || expr.Check(code) != api.OK {
			t.Error(n, len(code), expr.Check(code))
		}
	}
	for _, code := range [][]expr.Ins{
		sum(65), sum(66), sum(1 << 16), make([]expr.Ins, 65), make([]expr.Ins, 1<<16), chain(33),
		append(sum(64), num(1)), append(of(op(99)), sum(64)...), append(sum(64), expr.Ins{Op: 1, A: -1}),
	} {
		if e := expr.Check(code); e != api.ErrFull {
			t.Error(len(code), e)
		}
	}
}

func TestCheckStack(t *testing.T) {
	for n := 1; n <= 32; n++ {
		want := api.OK
		if n > 16 {
			want = api.ErrForm
		}
		if e := expr.Check(chain(n)); e != want {
			t.Error(n, e)
		}
	}
	// 16 stand, and an instruction that takes some of them puts one more.
	full := slices.Repeat(of(num(1)), 16)
	down := slices.Repeat(of(op(expr.Add)), 15)
	for i, x := range []struct {
		last expr.Ins
		want api.Errno
	}{
		{op(expr.Neg), api.OK}, {op(expr.Not), api.OK}, {op(expr.Place), api.ErrForm}, {elem(0, 0), api.ErrForm}, {here(0), api.ErrForm},
	} {
		if e := expr.Check(slices.Concat(full, of(x.last), down)); e != x.want {
			t.Error(i, e)
		}
		// A stack that was too high doesn't come right by what is taken away.
		if e := expr.Check(slices.Concat(full, of(x.last, op(expr.Add)), down)); e != api.ErrForm {
			t.Error(i, e)
		}
	}
}

// TestCheckShortCodes goes over all codes of up to four instructions.
func TestCheckShortCodes(t *testing.T) {
	seen := map[api.Errno]int{}
	var visit func(code []expr.Ins)
	visit = func(code []expr.Ins) {
		_, want := grow(code)
		seen[want]++
		if e := expr.Check(code); e != want {
			t.Fatal(code, e, want)
		}
		if len(code) == 4 {
			return
		}
		for n := range 19 {
			visit(append(slices.Clone(code), op(n)))
		}
	}
	visit(nil)
	if seen[api.OK] < 1000 || seen[api.ErrForm] < 1000 {
		t.Error(seen)
	}
}

func TestCheckMany(t *testing.T) {
	dice := rand.New(rand.NewPCG(1, 11))
	seen := map[api.Errno]int{}
	for range 50000 {
		code := someNode(dice, 1+dice.IntN(9)).code()
		if dice.IntN(2) == 0 {
			code = someTurn(dice, code)
		}
		_, want := grow(code)
		seen[want]++
		if e := expr.Check(code); e != want {
			t.Fatal(code, e, want)
		}
	}
	for _, e := range []api.Errno{api.OK, api.ErrForm, api.ErrFull} {
		if seen[e] < 1000 {
			t.Error(e, seen)
		}
	}
}

// P11.3

func TestShowEachRow(t *testing.T) {
	for i, x := range []struct {
		code []expr.Ins
		want string
	}{
		{of(num(0)), "0"},
		{of(num(-5)), "-5"},
		{of(great(top)), "170141183460469231731687303715884105727"},
		{of(great(bottom)), "-170141183460469231731687303715884105727"},
		{of(expr.Ins{Op: expr.Num, A: 3, B: 4}), "0"},
		{of(elem(0, 0)), "f0.0"},
		{of(elem(1, 2)), "f1.2"},
		{of(elem(7, 7)), "f7.7"},
		{of(here(0)), "f0@"},
		{of(here(7)), "f7@"},
		{of(expr.Ins{Op: expr.Here, A: 2, B: 5}), "f2@"},
		{of(op(expr.Place)), "@"},
		{of(expr.Ins{Op: expr.Place, A: 2, B: 5, K: top}), "@"},
		{of(num(1), num(2), op(expr.Add)), "add(1,2)"},
		{of(num(1), num(2), op(expr.Sub)), "sub(1,2)"},
		{of(num(1), num(2), op(expr.Mul)), "mul(1,2)"},
		{of(num(1), num(2), op(expr.Quo)), "quo(1,2)"},
		{of(num(1), num(2), op(expr.Rem)), "rem(1,2)"},
		{of(num(1), op(expr.Neg)), "neg(1)"},
		{of(num(1), num(2), op(expr.Least)), "least(1,2)"},
		{of(num(1), num(2), op(expr.Great)), "great(1,2)"},
		{of(num(1), num(2), op(expr.Same)), "same(1,2)"},
		{of(num(1), num(2), op(expr.Less)), "less(1,2)"},
		{of(num(1), op(expr.Not)), "not(1)"},
		{of(num(1), num(2), num(3), op(expr.Pick)), "pick(1,2,3)"},
		{of(num(1), num(2), op(expr.Need)), "need(1,2)"},
		{of(elem(0, 0), num(2), op(expr.Mul)), "mul(f0.0,2)"},
		{of(num(1), num(2), num(3), op(expr.Sub), op(expr.Add)), "add(1,sub(2,3))"},
		{of(num(1), num(2), op(expr.Add), num(3), op(expr.Sub)), "sub(add(1,2),3)"},
		{of(op(expr.Place), here(1), op(expr.Neg), elem(2, 3), op(expr.Not), op(expr.Pick), op(expr.Neg)), "neg(pick(@,neg(f1@),not(f2.3)))"},
		{chain(4), "add(1,add(1,add(1,1)))"},
	} {
		if s := expr.Show(x.code); s != x.want {
			t.Errorf("%d %q", i, s)
		}
	}
}

func TestShowMalformed(t *testing.T) {
	for i, code := range append(malformed(), sum(65), make([]expr.Ins, 65)) {
		if s := expr.Show(code); s != "" {
			t.Errorf("%d %q", i, s)
		}
	}
}

func TestShowMany(t *testing.T) {
	dice := rand.New(rand.NewPCG(2, 11))
	for range 20000 {
		n := someNode(dice, 1+dice.IntN(5))
		want := n.show()
		if _, e := grow(n.code()); e != api.OK {
			want = ""
		}
		if s := expr.Show(n.code()); s != want {
			t.Fatalf("%q %q", s, want)
		}
	}
	long := sum(64)
	n, _ := grow(long)
	if s := expr.Show(long); s != n.show() || !strings.HasPrefix(s, "neg(add(") {
		t.Error(s)
	}
}

func TestUses(t *testing.T) {
	odd := expr.Ins{Op: expr.Here, A: 3, B: 4, K: top}
	for i, x := range []struct{ code, want []expr.Ins }{
		{nil, nil},
		{of(num(1)), nil},
		{of(op(expr.Place)), nil},
		{of(elem(1, 2)), of(elem(1, 2))},
		{of(here(1)), of(here(1))},
		{of(odd), of(odd)},
		{of(here(2), elem(1, 2), op(expr.Add), here(2), op(expr.Mul)), of(here(2), elem(1, 2), here(2))},
		{of(elem(1, 2), num(2), op(expr.Mul), here(0), op(expr.Need)), of(elem(1, 2), here(0))},
		// A list that is no formula has these too.
		{of(elem(1, 2), here(9)), of(elem(1, 2), here(9))},
		{slices.Repeat(of(elem(0, 0), num(1)), 40), slices.Repeat(of(elem(0, 0)), 40)},
	} {
		if list := expr.Uses(x.code); !slices.Equal(list, x.want) {
			t.Error(i, list)
		}
	}
}

// Rule 3 of DOC.md

// kept is the same code with room behind it, and tells whether both are still
// as they were.
func kept(code []expr.Ins) ([]expr.Ins, func() bool) {
	all := append(slices.Clone(code), of(elem(5, 5), here(55))...)
	was := slices.Clone(all)
	return all[:len(code):len(all)], func() bool { return slices.Equal(all, was) }
}

func TestCodesStay(t *testing.T) {
	env, same := expr.Env{Fields: [][]api.Int{ints(1, 2, 3)[:2], ints(4)}, At: 1}, [][]api.Int{ints(1, 2, 3), ints(4)}
	for i, code := range [][]expr.Ins{
		chain(16), sum(64), of(elem(0, 1), here(0), op(expr.Mul)), of(num(1), num(1)), sum(65), of(expr.Ins{Op: 4, A: 1}),
	} {
		given, stays := kept(code)
		expr.Check(given)
		expr.Eval(given, env)
		expr.Show(given)
		expr.Uses(given)
		expr.Encode(given)
		if !stays() {
			t.Error(i, given)
		}
	}
	if !slices.Equal(env.Fields[0][:3], same[0]) || !slices.Equal(env.Fields[1], same[1]) || env.At != 1 || len(env.Fields) != 2 {
		t.Error(env)
	}
}

func TestUsesIsNew(t *testing.T) {
	code := of(elem(1, 2), here(3), op(expr.Add))
	list := expr.Uses(code)
	list[0] = num(9)
	_ = append(list[:1], num(9))
	if !slices.Equal(code, of(elem(1, 2), here(3), op(expr.Add))) {
		t.Error(code)
	}
	if again := expr.Uses(code); !slices.Equal(again, of(elem(1, 2), here(3))) {
		t.Error(again)
	}
}
