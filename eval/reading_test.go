package eval_test

import (
	"math/big"
	"math/rand/v2"
	"slices"
	"strconv"

	"retrofit/api"
	"retrofit/check"
	"retrofit/expr"
	"retrofit/layout"
	"retrofit/rule"
	"retrofit/schema"
	"retrofit/wide"
)

// A second reading of the chapter, with formulas reckoned in math/big and rows
// laid byte by byte, and the schemas, programs and values that the tests are
// made of.

const (
	maxInt  = 1<<63 - 1
	minInt  = -1 << 63
	maxWord = 1<<64 - 1
)

func of(name string, k api.Kind, n int) api.Field { return api.Field{Name: name, Kind: k, Count: n} }

func comp(id int, name string, list ...api.Field) api.Comp {
	return api.Comp{Id: id, Name: name, Fields: list}
}

func scheme(version int, list ...api.Comp) api.Schema {
	return api.Schema{Version: version, Comps: list}
}

func code(list ...expr.Ins) []expr.Ins { return list }

func num(n int) expr.Ins { return expr.Ins{Op: expr.Num, K: wide.Of(n)} }

func numOf(x api.Int) expr.Ins { return expr.Ins{Op: expr.Num, K: x} }

func elem(a, b int) expr.Ins { return expr.Ins{Op: expr.Elem, A: a, B: b} }

func here(a int) expr.Ins { return expr.Ins{Op: expr.Here, A: a} }

func op(n int) expr.Ins { return expr.Ins{Op: n} }

func made(id, old int, list ...[]expr.Ins) rule.Rule {
	return rule.Rule{New: id, Old: old, Exprs: list}
}

func fresh(id int) rule.Rule { return rule.Rule{New: id} }

func prog(from, to int, list ...rule.Rule) rule.Program {
	return rule.Program{From: from, To: to, Rules: list}
}

func part(id int, list ...int) api.Part { return api.Part{Comp: id, Val: ints(list...)} }

func ints(list ...int) []api.Int {
	val := []api.Int{}
	for _, n := range list {
		val = append(val, wide.Of(n))
	}
	return val
}

func bigOf(x api.Int) *big.Int {
	b := new(big.Int).SetUint64(x.Hi)
	b.Lsh(b, 64).Add(b, new(big.Int).SetUint64(x.Lo))
	if x.Neg {
		b.Neg(b)
	}
	return b
}

func ofBig(b *big.Int) api.Int {
	size := new(big.Int).Abs(b)
	low := new(big.Int).And(size, new(big.Int).SetUint64(maxWord))
	return api.Int{Neg: b.Sign() < 0, Hi: size.Rsh(size, 64).Uint64(), Lo: low.Uint64()}
}

// bytesOf are how many a kind has.
func bytesOf(k api.Kind) int { return []int{0, 1, 1, 2, 4, 8, 1, 2, 4, 8, 8}[k] }

// bounds are a kind's.
func bounds(k api.Kind) (*big.Int, *big.Int) {
	power := func(n int) *big.Int { return new(big.Int).Lsh(big.NewInt(1), uint(n)) }
	less := func(b *big.Int) *big.Int { return new(big.Int).Sub(b, big.NewInt(1)) }
	bits := 8 * bytesOf(k)
	switch {
	case k == 1:
		return big.NewInt(0), big.NewInt(1)
	case k <= 5:
		return new(big.Int).Neg(power(bits - 1)), less(power(bits - 1))
	}
	return big.NewInt(0), less(power(bits))
}

func fits(k api.Kind, b *big.Int) bool {
	from, to := bounds(k)
	return b.Cmp(from) >= 0 && b.Cmp(to) <= 0
}

// place is an element of a value: a field, and which one of its own.
type place struct{ field, at int }

// places are all elements of fields that can be, in order.
func places(list []api.Field) []place {
	all := []place{}
	for i, f := range list {
		for at := range f.Count {
			all = append(all, place{i, at})
		}
	}
	return all
}

// reckon does a right formula over old elements, at a place.
func reckon(list []expr.Ins, elements map[place]*big.Int, at int) (*big.Int, api.Errno) {
	stack := []*big.Int{}
	pop := func() *big.Int {
		top := stack[len(stack)-1]
		stack = stack[:len(stack)-1]
		return top
	}
	for _, i := range list {
		put, e := (*big.Int)(nil), api.OK
		switch i.Op {
		case 1:
			put = bigOf(i.K)
		case 2:
			put = elements[place{i.A, i.B}]
		case 3:
			put = elements[place{i.A, at}]
		case 4:
			put = big.NewInt(int64(at))
		case 10:
			put = new(big.Int).Neg(pop())
		case 15:
			put = truth(pop().Sign() == 0)
		case 16:
			z, y, x := pop(), pop(), pop()
			put = y
			if x.Sign() == 0 {
				put = z
			}
		default:
			y, x := pop(), pop()
			put, e = ofTwo(i.Op, x, y)
		}
		if e != api.OK {
			return nil, e
		}
		if put.BitLen() > 127 {
			return nil, api.ErrRange
		}
		stack = append(stack, put)
	}
	return stack[0], api.OK
}

func truth(is bool) *big.Int {
	if is {
		return big.NewInt(1)
	}
	return big.NewInt(0)
}

func ofTwo(op int, x, y *big.Int) (*big.Int, api.Errno) {
	z := new(big.Int)
	if y.Sign() == 0 {
		switch op {
		case 8, 9:
			return nil, api.ErrArg
		case 17:
			return nil, api.ErrFail
		}
	}
	switch op {
	case 5:
		return z.Add(x, y), api.OK
	case 6:
		return z.Sub(x, y), api.OK
	case 7:
		return z.Mul(x, y), api.OK
	case 8:
		return z.Quo(x, y), api.OK
	case 9:
		return z.Rem(x, y), api.OK
	case 13:
		return truth(x.Cmp(y) == 0), api.OK
	case 14:
		return truth(x.Cmp(y) < 0), api.OK
	}
	if op == 11 && y.Cmp(x) < 0 || op == 12 && y.Cmp(x) > 0 {
		return y, api.OK
	}
	return x, api.OK
}

// readValue goes the way of P14.1.
func readValue(old, now api.Comp, r rule.Rule, val []api.Int) ([]api.Int, api.Errno) {
	if e := layout.Fit(old.Fields, val); e != api.OK {
		return nil, e
	}
	if e := layout.Check(now.Fields); e != api.OK {
		return nil, e
	}
	if r.Old == 0 {
		return nil, api.ErrState
	}
	if e := check.Rule(old, now, r); e != api.OK {
		return nil, e
	}
	elements := map[place]*big.Int{}
	for i, p := range places(old.Fields) {
		elements[p] = bigOf(val[i])
	}
	list := []api.Int{}
	for _, p := range places(now.Fields) {
		b, e := reckon(r.Exprs[p.field], elements, p.at)
		if e != api.OK {
			return nil, e
		}
		if !fits(now.Fields[p.field].Kind, b) {
			return nil, api.ErrRange
		}
		list = append(list, ofBig(b))
	}
	return list, api.OK
}

// packed lays a value that fits.
func packed(list []api.Field, val []api.Int) string {
	row, widest := []byte{}, 1
	fill := func(size int) {
		for len(row)%size != 0 {
			row = append(row, 0)
		}
	}
	for i, p := range places(list) {
		size := bytesOf(list[p.field].Kind)
		widest = max(widest, size)
		fill(size)
		b := bigOf(val[i])
		if b.Sign() < 0 {
			b.Add(b, new(big.Int).Lsh(big.NewInt(1), uint(8*size)))
		}
		for n := range size {
			row = append(row, byte(new(big.Int).Rsh(b, uint(8*n)).Uint64()))
		}
	}
	fill(widest)
	return string(row)
}

// readRow goes the way of P14.2.
func readRow(old, now api.Comp, r rule.Rule, row string) (string, api.Errno) {
	val, e := layout.Unpack(old.Fields, row)
	if e != api.OK {
		return "", e
	}
	list, e := readValue(old, now, r, val)
	if e != api.OK {
		return "", e
	}
	return packed(now.Fields, list), api.OK
}

// readParts goes the way of P14.3.
func readParts(old, now api.Schema, p rule.Program, list []api.Part) ([]api.Part, api.Errno) {
	if e := check.Check(old, now, p); e != api.OK {
		return nil, e
	}
	if e := schema.CheckParts(old, list); e != api.OK {
		return nil, e
	}
	was, is := map[int]api.Comp{}, map[int]api.Comp{}
	for _, c := range old.Comps {
		was[c.Id] = c
	}
	for _, c := range now.Comps {
		is[c.Id] = c
	}
	all := []api.Part{}
	for _, r := range p.Rules {
		for _, one := range list {
			if one.Comp != r.Old {
				continue
			}
			val, e := readValue(was[r.Old], is[r.New], r, one.Val)
			if e != api.OK {
				return nil, e
			}
			all = append(all, api.Part{Comp: r.New, Val: val})
		}
	}
	return all, api.OK
}

func samePart(a, b api.Part) bool { return a.Comp == b.Comp && slices.Equal(a.Val, b.Val) }

func sameParts(a, b []api.Part) bool { return slices.EqualFunc(a, b, samePart) }

// someFields can be, and have a row; there may be none of them.
func someFields(dice *rand.Rand) []api.Field {
	list := []api.Field{}
	for at := range dice.IntN(5) {
		k := api.Kind(1 + dice.IntN(12))
		if k > 10 {
			k = api.Ref
		}
		list = append(list, of(string(rune('a'+at)), k, 1+dice.IntN(3)))
	}
	return list
}

// someNumber fits a kind; bounds and small numbers come often.
func someNumber(dice *rand.Rand, k api.Kind) api.Int {
	from, to := bounds(k)
	switch dice.IntN(6) {
	case 0:
		return ofBig(from)
	case 1:
		return ofBig(to)
	case 2:
		b := new(big.Int).SetUint64(dice.Uint64())
		all := new(big.Int).Add(new(big.Int).Sub(to, from), big.NewInt(1))
		return ofBig(b.Add(b.Mod(b, all), from))
	}
	b := big.NewInt(dice.Int64N(9) - 4)
	if !fits(k, b) {
		b = to
	}
	return ofBig(b)
}

func someValue(dice *rand.Rand, list []api.Field) []api.Int {
	val := []api.Int{}
	for _, p := range places(list) {
		val = append(val, someNumber(dice, list[p.field].Kind))
	}
	return val
}

// leaf is a right one for a new field.
func leaf(dice *rand.Rand, old api.Comp, f api.Field) expr.Ins {
	list := code(num(0))
	for a, from := range old.Fields {
		if (from.Kind == api.Ref) != (f.Kind == api.Ref) {
			continue
		}
		list = append(list, elem(a, dice.IntN(from.Count)))
		if from.Count >= f.Count {
			list = append(list, here(a), here(a))
		}
	}
	if f.Kind != api.Ref {
		list = append(list, op(expr.Place), num(dice.IntN(5)-2))
	}
	return list[dice.IntN(len(list))]
}

// tree is a formula of at most so many instructions from its end to a leaf.
func tree(dice *rand.Rand, old api.Comp, f api.Field, deep int) []expr.Ins {
	if deep <= 1 || f.Kind == api.Ref {
		return code(leaf(dice, old, f))
	}
	takes := []int{2, 2, 2, 2, 2, 1, 2, 2, 2, 2, 1, 3, 2}
	at := dice.IntN(len(takes))
	list := []expr.Ins{}
	for range takes[at] {
		list = append(list, tree(dice, old, f, deep-1-dice.IntN(2))...)
	}
	return append(list, op(expr.Add+at))
}

// someRule is right, but for few.
func someRule(dice *rand.Rand, id int, old, now api.Comp) rule.Rule {
	r := made(id, old.Id)
	for _, f := range now.Fields {
		c := tree(dice, old, f, 1+dice.IntN(3))
		if dice.IntN(4) == 0 {
			// A number that fits whatever it is made of.
			low, _ := bounds(f.Kind)
			c = code(numOf(ofBig(low)))
		}
		if dice.IntN(100) == 0 {
			wrong := elem(dice.IntN(max(len(old.Fields), 1)), 0)
			c = [][]expr.Ins{nil, code(elem(dice.IntN(8), dice.IntN(8))), code(num(1), num(1)), make([]expr.Ins, 65), code(wrong)}[dice.IntN(5)]
		}
		r.Exprs = append(r.Exprs, c)
	}
	switch dice.IntN(100) {
	case 0:
		r.Exprs = append(r.Exprs, code(num(0)))
	case 1:
		r = fresh(id)
	}
	return r
}

// someScheme has Ids that meet often.
func someScheme(dice *rand.Rand, version int) api.Schema {
	s := scheme(version)
	for _, id := range []int{1, 2, 3, 5, 24} {
		if dice.IntN(3) > 0 {
			s.Comps = append(s.Comps, comp(id, "c"+strconv.Itoa(id), someFields(dice)...))
		}
	}
	return s
}

// someProgram goes mostly from the one to the other one.
func someProgram(dice *rand.Rand, old, now api.Schema) rule.Program {
	p := prog(old.Version, now.Version)
	for _, c := range now.Comps {
		r := fresh(c.Id)
		if len(old.Comps) > 0 && dice.IntN(5) > 0 {
			r = someRule(dice, c.Id, old.Comps[dice.IntN(len(old.Comps))], c)
		}
		p.Rules = append(p.Rules, r)
	}
	switch dice.IntN(60) {
	case 0:
		p.To++
	case 1:
		p.Rules = append(p.Rules, fresh(4))
	}
	return p
}

// someParts are right, but for few, in any order.
func someParts(dice *rand.Rand, s api.Schema) []api.Part {
	list := []api.Part{}
	for _, c := range s.Comps {
		if dice.IntN(3) > 0 {
			list = append(list, api.Part{Comp: c.Id, Val: someValue(dice, c.Fields)})
		}
	}
	dice.Shuffle(len(list), func(i, k int) { list[i], list[k] = list[k], list[i] })
	if len(list) == 0 {
		return list
	}
	one := &list[dice.IntN(len(list))]
	switch dice.IntN(60) {
	case 0:
		list = append(list, *one)
	case 1:
		one.Comp = dice.IntN(27)
	case 2:
		one.Val = append(one.Val, wide.Of(0))
	case 3:
		for i := range one.Val {
			one.Val[i] = api.Int{Neg: true}
		}
	}
	return list
}
