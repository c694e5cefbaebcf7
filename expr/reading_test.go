package expr_test

import (
	"math/big"
	"math/rand/v2"
	"slices"
	"strconv"

	"retrofit/api"
	"retrofit/expr"
)

// A second reading of the chapter: a formula as a tree, read from its end, and
// numbers in math/big.

const (
	maxInt  = 1<<63 - 1
	minInt  = -1 << 63
	maxWord = 1<<64 - 1
)

// ops are the words and what is taken, as the document's table has them.
var ops = []struct {
	op, takes int
	word      string
}{
	{1, 0, ""}, {2, 0, ""}, {3, 0, ""}, {4, 0, ""},
	{5, 2, "add"}, {6, 2, "sub"}, {7, 2, "mul"}, {8, 2, "quo"}, {9, 2, "rem"},
	{10, 1, "neg"}, {11, 2, "least"}, {12, 2, "great"}, {13, 2, "same"}, {14, 2, "less"},
	{15, 1, "not"}, {16, 3, "pick"}, {17, 2, "need"},
}

// node is an instruction, and those that put what it takes.
type node struct {
	ins  expr.Ins
	kids []*node
}

// inForm: whether a number is in form.
func inForm(x api.Int) bool { return x.Hi < 1<<63 && !(x.Neg && x.Hi == 0 && x.Lo == 0) }

func bigOf(x api.Int) *big.Int {
	b := new(big.Int).SetUint64(x.Hi)
	b.Lsh(b, 64).Add(b, new(big.Int).SetUint64(x.Lo))
	if x.Neg {
		b.Neg(b)
	}
	return b
}

func ofBig(b *big.Int) api.Int {
	size := new(big.Int).Abs(b)
	low := new(big.Int).And(size, new(big.Int).SetUint64(maxWord))
	return api.Int{Neg: b.Sign() < 0, Hi: size.Rsh(size, 64).Uint64(), Lo: low.Uint64()}
}

// cut reads the node that ends at the end of a code; false: there is none.
func cut(code []expr.Ins) (*node, []expr.Ins, bool) {
	if len(code) == 0 {
		return nil, nil, false
	}
	rest, last := code[:len(code)-1], code[len(code)-1]
	if last.Op < 1 || last.Op > 17 || last.A < 0 || last.A > 7 || last.B < 0 || last.B > 7 || !inForm(last.K) {
		return nil, nil, false
	}
	n := &node{ins: last}
	for range ops[last.Op-1].takes {
		kid, left, is := cut(rest)
		if !is {
			return nil, nil, false
		}
		n.kids, rest = append([]*node{kid}, n.kids...), left
	}
	return n, rest, true
}

// height is how many numbers stand at once while a node is done.
func (n *node) height() int {
	most := 1
	for i, kid := range n.kids {
		most = max(most, i+kid.height())
	}
	return most
}

// grow is the tree of a code, and what Check answers of it.
func grow(code []expr.Ins) (*node, api.Errno) {
	if len(code) > 64 {
		return nil, api.ErrFull
	}
	n, rest, is := cut(code)
	if !is || len(rest) > 0 || n.height() > 16 {
		return nil, api.ErrForm
	}
	return n, api.OK
}

// code is the formula of a tree.
func (n *node) code() []expr.Ins {
	list := []expr.Ins{}
	for _, kid := range n.kids {
		list = append(list, kid.code()...)
	}
	return append(list, n.ins)
}

func (n *node) show() string {
	switch n.ins.Op {
	case 1:
		return bigOf(n.ins.K).String()
	case 2:
		return "f" + strconv.Itoa(n.ins.A) + "." + strconv.Itoa(n.ins.B)
	case 3:
		return "f" + strconv.Itoa(n.ins.A) + "@"
	case 4:
		return "@"
	}
	text := ops[n.ins.Op-1].word + "("
	for i, kid := range n.kids {
		if i > 0 {
			text += ","
		}
		text += kid.show()
	}
	return text + ")"
}

// value is what a node comes to, in form or not.
func (n *node) value(env expr.Env) (api.Int, api.Errno) {
	taken, reckoned := []api.Int{}, []*big.Int{}
	for _, kid := range n.kids {
		x, e := kid.value(env)
		if e != api.OK {
			return api.Int{}, e
		}
		taken, reckoned = append(taken, x), append(reckoned, bigOf(x))
	}
	for i, x := range taken {
		if !inForm(x) && !(n.ins.Op == 16 && i > 0) && !(n.ins.Op == 17 && i == 0) {
			return api.Int{}, api.ErrArg
		}
	}
	switch n.ins.Op {
	case 1:
		return n.ins.K, api.OK
	case 2:
		return elementOf(env, n.ins.A, n.ins.B)
	case 3:
		return elementOf(env, n.ins.A, env.At)
	case 4:
		if env.At < 0 {
			return api.Int{}, api.ErrRange
		}
		return ofBig(big.NewInt(int64(env.At))), api.OK
	case 16:
		if reckoned[0].Sign() != 0 {
			return taken[1], api.OK
		}
		return taken[2], api.OK
	case 17:
		if reckoned[1].Sign() == 0 {
			return api.Int{}, api.ErrFail
		}
		return taken[0], api.OK
	}
	if (n.ins.Op == 8 || n.ins.Op == 9) && reckoned[1].Sign() == 0 {
		return api.Int{}, api.ErrArg
	}
	z := reckoning(n.ins.Op, reckoned)
	if z.BitLen() > 127 {
		return api.Int{}, api.ErrRange
	}
	return ofBig(z), api.OK
}

// reckoning is what Add to Not come to, without bounds.
func reckoning(op int, list []*big.Int) *big.Int {
	x, y, z := list[0], list[len(list)-1], new(big.Int)
	bit := func(is bool) *big.Int {
		if is {
			return z.SetInt64(1)
		}
		return z
	}
	switch op {
	case 5:
		return z.Add(x, y)
	case 6:
		return z.Sub(x, y)
	case 7:
		return z.Mul(x, y)
	case 8:
		return z.Quo(x, y)
	case 9:
		return z.Rem(x, y)
	case 10:
		return z.Neg(x)
	case 11:
		if x.Cmp(y) < 0 {
			return x
		}
		return y
	case 12:
		if x.Cmp(y) > 0 {
			return x
		}
		return y
	case 13:
		return bit(x.Cmp(y) == 0)
	case 14:
		return bit(x.Cmp(y) < 0)
	}
	return bit(x.Sign() == 0)
}

func elementOf(env expr.Env, field, at int) (api.Int, api.Errno) {
	for f, list := range env.Fields {
		for k, x := range list {
			if f == field && k == at {
				return x, api.OK
			}
		}
	}
	return api.Int{}, api.ErrRange
}

// readEval is what Eval answers.
func readEval(code []expr.Ins, env expr.Env) (api.Int, api.Errno) {
	n, e := grow(code)
	if e != api.OK {
		return api.Int{}, e
	}
	x, e := n.value(env)
	if e == api.OK && !inForm(x) {
		return api.Int{}, api.ErrForm
	}
	return x, e
}

// readEncode is what Encode answers.
func readEncode(code []expr.Ins) (string, api.Errno) {
	if _, e := grow(code); e != api.OK {
		return "", e
	}
	b := []byte{byte(len(code))}
	for _, i := range code {
		b = append(b, byte(i.Op))
		switch i.Op {
		case 1:
			if i.A != 0 || i.B != 0 {
				return "", api.ErrArg
			}
			b = append(b, numberBytes(i.K)...)
		case 2:
			if i.K != (api.Int{}) {
				return "", api.ErrArg
			}
			b = append(b, byte(i.A), byte(i.B))
		case 3:
			if i.B != 0 || i.K != (api.Int{}) {
				return "", api.ErrArg
			}
			b = append(b, byte(i.A))
		default:
			if i != (expr.Ins{Op: i.Op}) {
				return "", api.ErrArg
			}
		}
	}
	return string(b), api.OK
}

func numberBytes(x api.Int) []byte {
	b := make([]byte, 17)
	if x.Neg {
		b[0] = 1
	}
	for k := range 8 {
		b[1+k], b[9+k] = byte(x.Lo>>(8*k)), byte(x.Hi>>(8*k))
	}
	return b
}

// readDecode is what Decode answers: it cuts bytes into instructions, and asks
// whether those have these bytes.
func readDecode(bytes string) ([]expr.Ins, api.Errno) {
	if bytes == "" {
		return nil, api.ErrForm
	}
	code, rest := []expr.Ins{}, bytes[1:]
	for rest != "" {
		i, size := expr.Ins{Op: int(rest[0])}, 1
		switch i.Op {
		case 1:
			size = 18
		case 2:
			size = 3
		case 3:
			size = 2
		}
		if size > len(rest) {
			return nil, api.ErrForm
		}
		switch i.Op {
		case 1:
			i.K.Neg = rest[1] != 0
			for k := range 8 {
				i.K.Lo |= uint64(rest[2+k]) << (8 * k)
				i.K.Hi |= uint64(rest[10+k]) << (8 * k)
			}
		case 2:
			i.A, i.B = int(rest[1]), int(rest[2])
		case 3:
			i.A = int(rest[1])
		}
		code, rest = append(code, i), rest[size:]
	}
	if b, e := readEncode(code); e != api.OK || b != bytes {
		return nil, api.ErrForm
	}
	return code, api.OK
}

// Makers.

func num(n int64) expr.Ins { return expr.Ins{Op: expr.Num, K: ofBig(big.NewInt(n))} }

func great(x api.Int) expr.Ins { return expr.Ins{Op: expr.Num, K: x} }

func elem(a, b int) expr.Ins { return expr.Ins{Op: expr.Elem, A: a, B: b} }

func here(a int) expr.Ins { return expr.Ins{Op: expr.Here, A: a} }

func op(n int) expr.Ins { return expr.Ins{Op: n} }

func of(list ...expr.Ins) []expr.Ins { return list }

func ints(list ...int64) []api.Int {
	out := []api.Int{}
	for _, n := range list {
		out = append(out, ofBig(big.NewInt(n)))
	}
	return out
}

// The number of the greatest size, and its opposite.
var (
	top    = api.Int{Hi: maxInt, Lo: maxWord}
	bottom = api.Int{Neg: true, Hi: maxInt, Lo: maxWord}
)

// formless are numbers that aren't in form.
func formless() []api.Int {
	return []api.Int{
		{Neg: true}, {Hi: 1 << 63}, {Hi: 1 << 63, Neg: true}, {Hi: 1 << 63, Lo: 1},
		{Hi: maxWord, Lo: maxWord}, {Neg: true, Hi: maxWord, Lo: maxWord},
	}
}

// someNumber is small or great, in form.
func someNumber(dice *rand.Rand) api.Int {
	switch dice.IntN(8) {
	case 0:
		return []api.Int{top, bottom, {Hi: 1}, {Neg: true, Hi: 1}, {Lo: maxWord}, {Hi: 1 << 62}, {Lo: 1 << 63}}[dice.IntN(7)]
	case 1:
		x := api.Int{Neg: dice.IntN(2) == 0, Hi: dice.Uint64() >> (1 + dice.IntN(63)), Lo: 1 + dice.Uint64N(maxWord)}
		return x
	}
	return ofBig(big.NewInt(dice.Int64N(9) - 4))
}

// someNode is a tree of at most so many instructions from its root to a leaf.
func someNode(dice *rand.Rand, deep int) *node {
	if deep <= 1 || dice.IntN(6) == 0 {
		leaf := []expr.Ins{great(someNumber(dice)), elem(dice.IntN(8), dice.IntN(8)), here(dice.IntN(8)), op(expr.Place)}[dice.IntN(4)]
		// Those that there are, mostly.
		if dice.IntN(8) > 0 {
			leaf.A, leaf.B = leaf.A%3, leaf.B%2
		}
		if leaf.Op == expr.Num || leaf.Op == expr.Place {
			leaf.A, leaf.B = 0, 0
		}
		return &node{ins: leaf}
	}
	row := ops[4+dice.IntN(13)]
	n := &node{ins: op(row.op)}
	for range row.takes {
		n.kids = append(n.kids, someNode(dice, deep-1))
	}
	return n
}

// someCode is well formed.
func someCode(dice *rand.Rand) []expr.Ins {
	for {
		code := someNode(dice, 1+dice.IntN(5)).code()
		if _, e := grow(code); e == api.OK {
			return code
		}
	}
}

// someTurn makes few turns of a code, so that it is well formed or not.
func someTurn(dice *rand.Rand, code []expr.Ins) []expr.Ins {
	code = slices.Clone(code)
	for range 1 + dice.IntN(2) {
		i := expr.Ins{Op: dice.IntN(19), K: someNumber(dice)}
		switch dice.IntN(10) {
		case 0:
			i.A = dice.IntN(11) - 1
		case 1:
			i.B = dice.IntN(11) - 1
		case 2:
			i.K = formless()[dice.IntN(6)]
		}
		at := dice.IntN(len(code) + 1)
		switch {
		case at == len(code) || dice.IntN(3) == 0:
			code = slices.Insert(code, at, i)
		case dice.IntN(2) == 0:
			code[at] = i
		default:
			code = slices.Delete(code, at, at+1)
		}
	}
	return code
}

// someEnv has two or three fields of up to three elements, mostly in form.
func someEnv(dice *rand.Rand) expr.Env {
	env := expr.Env{At: dice.IntN(4)}
	if dice.IntN(10) == 0 {
		env.At = []int{-1, -2, 7, 8, maxInt, minInt}[dice.IntN(6)]
	}
	for range 2 + dice.IntN(2) {
		list := []api.Int{}
		for range 3 - dice.IntN(4)/3*dice.IntN(4) {
			x := someNumber(dice)
			if dice.IntN(12) == 0 {
				x = formless()[dice.IntN(6)]
			}
			list = append(list, x)
		}
		env.Fields = append(env.Fields, list)
	}
	return env
}
