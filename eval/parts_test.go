package eval_test

import (
	"math/rand/v2"
	"slices"
	"testing"

	"retrofit/api"
	"retrofit/eval"
	"retrofit/expr"
	"retrofit/rule"
	"retrofit/sig"
	"retrofit/wide"
)

// set is of Ids that there are.
func set(ids ...int) sig.Sig {
	s := sig.Sig(0)
	for _, id := range ids {
		s |= 1 << id
	}
	return s
}

// P14.3

func TestSigByHand(t *testing.T) {
	p := prog(1, 2, made(1, 2), made(2, 2), fresh(3), made(4, 5), made(23, 24), made(24, 1))
	for i, x := range []struct {
		p       rule.Program
		s, want sig.Sig
	}{
		{p, 0, 0},
		{p, set(1), set(24)},
		{p, set(2), set(1, 2)},
		{p, set(3), 0},
		{p, set(4), 0},
		{p, set(5), set(4)},
		{p, set(24), set(23)},
		{p, set(1, 2, 5, 24), set(1, 2, 4, 23, 24)},
		{p, set(3, 4, 6, 7, 23), 0},
		{p, 1<<25 - 2, set(1, 2, 4, 23, 24)},
		{prog(1, 2), 1<<25 - 2, 0},
		{rule.Program{}, set(1), 0},
		// Formulas, versions and the order play no part.
		{prog(minInt, 0, made(7, 3, nil, make([]expr.Ins, 99)), made(2, 3), made(7, 3)), set(3), set(2, 7)},
		{prog(1, 2, made(3, 1), made(3, 2)), set(2), set(3)},
		// Of bits that can't be there is no rule, and none comes out.
		{prog(1, 2, fresh(3), made(4, 25), made(5, 31), made(6, -1), made(7, 32), made(8, 64), made(9, minInt), made(10, maxInt)), 1<<32 - 1, 0},
		{prog(1, 2, made(0, 1), made(25, 1), made(-1, 1), made(31, 1), made(32, 1), made(64, 1), made(65, 1), made(minInt, 1), made(maxInt, 1)), set(1), 0},
		{prog(1, 2, made(0, 1), made(3, 1), made(25, 1)), set(1), set(3)},
		{p, 1 | 1<<25 | 1<<31, 0},
		{p, 1 | 1<<25 | 1<<31 | set(1), set(24)},
	} {
		if s := eval.Sig(x.p, x.s); s != x.want {
			t.Error(i, s.Text())
		}
	}
}

// TestSigs has all programs of three rules, and all sets, of few Ids.
func TestSigs(t *testing.T) {
	for n := range 5 * 5 * 5 {
		olds := []int{n % 5, n / 5 % 5, n / 25}
		p := prog(1, 2, made(2, olds[0]), made(3, olds[1]), made(24, olds[2]))
		for s := range sig.Sig(32) {
			want := sig.Sig(0)
			for i, id := range []int{2, 3, 24} {
				if slices.Contains(s.Ids(), olds[i]) {
					want |= 1 << id
				}
			}
			if got := eval.Sig(p, s); got != want {
				t.Error(olds, s, got)
			}
		}
	}
}

// whole is a migration of parts.
type whole struct {
	old, now api.Schema
	p        rule.Program
	list     []api.Part
}

// goodWhole makes three components of 2, one of 5 and one of 24, whose Ids go
// the other way around; one is fresh, and nothing is made of 7.
func goodWhole() whole {
	old := scheme(3, comp(2, "pos", of("x", api.I16, 2)), comp(5, "tag"), comp(7, "gone", of("n", api.U64, 1)), comp(24, "boss", of("r", api.Ref, 1), of("n", api.I8, 1)))
	now := scheme(9, comp(1, "boss", of("r", api.Ref, 2)), comp(2, "x", of("x", api.I8, 1)), comp(3, "y", of("y", api.I32, 1)),
		comp(6, "new", of("n", api.U8, 1)), comp(8, "both", of("x", api.I16, 1), of("y", api.I16, 1)), comp(24, "tag"))
	p := prog(3, 9,
		made(1, 24, code(elem(0, 0))),
		made(2, 2, code(elem(0, 0))),
		made(3, 2, code(elem(0, 1), num(1000), op(expr.Mul))),
		fresh(6),
		made(8, 2, code(elem(0, 1)), code(num(100), elem(0, 0), op(expr.Quo))),
		made(24, 5))
	return whole{old, now, p, []api.Part{part(7, 99), part(2, 50, -7), part(24, 77, -1), part(5)}}
}

func (w whole) parts() ([]api.Part, api.Errno) { return eval.Parts(w.old, w.now, w.p, w.list) }

func TestPartsByHand(t *testing.T) {
	one, x, y, both, tag := part(1, 77, 77), part(2, 50), part(3, -7000), part(8, -7, 2), part(24)
	pos, boss := part(2, 50, -7), part(24, 77, -1)
	for i, z := range []struct {
		list, want []api.Part
	}{
		{nil, nil},
		{[]api.Part{part(7, 99)}, nil},
		{[]api.Part{part(5)}, []api.Part{tag}},
		{[]api.Part{boss}, []api.Part{one}},
		{[]api.Part{pos}, []api.Part{x, y, both}},
		{[]api.Part{pos, boss}, []api.Part{one, x, y, both}},
		{[]api.Part{part(5), part(24, 77, -1), part(7, 0), pos}, []api.Part{one, x, y, both, tag}},
		{[]api.Part{pos, part(5), part(7, 0), boss}, []api.Part{one, x, y, both, tag}},
		{[]api.Part{part(5), part(7, maxInt)}, []api.Part{tag}},
	} {
		w := goodWhole()
		w.list = z.list
		if list, e := w.parts(); e != api.OK || !sameParts(list, z.want) {
			t.Error(i, list, e)
		}
		if list, e := readParts(w.old, w.now, w.p, w.list); e != api.OK || !sameParts(list, z.want) {
			t.Error(i, list, e)
		}
	}
}

// TestPartsOfAllOrders: in whatever order they come, they become the same.
func TestPartsOfAllOrders(t *testing.T) {
	dice := rand.New(rand.NewPCG(4, 14))
	w := goodWhole()
	want, _ := w.parts()
	for range 200 {
		dice.Shuffle(len(w.list), func(i, k int) { w.list[i], w.list[k] = w.list[k], w.list[i] })
		if list, e := w.parts(); e != api.OK || !sameParts(list, want) || len(list) != 5 {
			t.Error(w.list, list, e)
		}
	}
}

func TestPartsOfNothing(t *testing.T) {
	for i, x := range []struct {
		old, now api.Schema
		p        rule.Program
		list     []api.Part
		want     api.Errno
	}{
		{scheme(1), scheme(2), prog(1, 2), nil, api.OK},
		{scheme(1), scheme(2), prog(1, 2), []api.Part{}, api.OK},
		{scheme(1), scheme(2), prog(1, 2), []api.Part{part(1)}, api.ErrNone},
		{scheme(1), scheme(2, comp(1, "a")), prog(1, 2, fresh(1)), nil, api.OK},
		{scheme(1), scheme(2, comp(1, "a")), prog(1, 2, fresh(1)), []api.Part{part(0)}, api.ErrNone},
		{scheme(1, comp(1, "a")), scheme(2), prog(1, 2), []api.Part{part(1)}, api.OK},
		{scheme(1, comp(1, "a")), scheme(2, comp(1, "a")), prog(1, 2, fresh(1)), []api.Part{part(1)}, api.OK},
		{api.Schema{}, api.Schema{}, rule.Program{}, nil, api.ErrArg},
	} {
		if list, e := eval.Parts(x.old, x.now, x.p, x.list); e != x.want || len(list) > 0 {
			t.Error(i, list, e)
		}
	}
}

// wholeFault is one way to go wrong.
type wholeFault struct {
	turn func(w *whole)
	want api.Errno
}

// wholeFaults are all kinds of them, those that are told first ahead; those in
// one group are told alike.
func wholeFaults() [][]wholeFault {
	return [][]wholeFault{
		{
			{func(w *whole) { w.old.Version = 0 }, api.ErrArg},
			{func(w *whole) { w.old.Comps[0].Fields[0].Count = 9 }, api.ErrArg},
			{func(w *whole) { w.old.Comps[1].Name = "" }, api.ErrForm},
		},
		{
			{func(w *whole) { w.now.Version = 1<<30 + 1 }, api.ErrArg},
			{func(w *whole) { w.now.Comps[5].Id = 25 }, api.ErrArg},
			{func(w *whole) { w.now.Comps[4].Fields[1].Name = "x" }, api.ErrForm},
		},
		{
			{func(w *whole) { w.p.From = -1 }, api.ErrArg},
			{func(w *whole) { w.p.Rules[3].Exprs = make([][]expr.Ins, 1) }, api.ErrForm},
			{func(w *whole) { w.p.Rules[5].Exprs = make([][]expr.Ins, 9) }, api.ErrFull},
			// It has no bytes, so no program has it, though Value would do it.
			{func(w *whole) { w.p.Rules[1].Exprs[0] = code(expr.Ins{Op: expr.Here, B: 1}) }, api.ErrArg},
		},
		{
			{func(w *whole) { w.p.To = 8 }, api.ErrState},
			{func(w *whole) { w.p.To, w.now.Version = 3, 3 }, api.ErrState},
		},
		{
			{func(w *whole) { w.p.Rules[5].New = 23 }, api.ErrNone},
			{func(w *whole) { w.p.Rules[5].Old = 6 }, api.ErrNone},
		},
		// Rules are asked, also of those that there is no part for.
		{{func(w *whole) { w.p.Rules[0].Exprs[0] = code(elem(1, 0)) }, api.ErrType}},
		{{func(w *whole) { w.p.Rules[5].Exprs = [][]expr.Ins{code(num(0))} }, api.ErrForm}},
		// The parts, in their order; the one that is wrong stands behind.
		{
			{func(w *whole) { w.list[0].Comp = 2; w.list[0].Val = ints(0) }, api.ErrForm},
			{func(w *whole) { w.list[0].Comp = 6 }, api.ErrNone},
			{func(w *whole) { w.list[0].Comp = 0 }, api.ErrNone},
			{func(w *whole) { w.list[0].Val = ints(-1) }, api.ErrRange},
		},
		{
			{func(w *whole) { w.list[1].Comp = w.list[0].Comp; w.list[1].Val = w.list[0].Val }, api.ErrArg},
			{func(w *whole) { w.list[1].Val = ints(1, 2, 3) }, api.ErrForm},
			{func(w *whole) { w.list[1].Val[1] = wide.Of(32768) }, api.ErrRange},
		},
		{
			{func(w *whole) { w.list[3] = part(24, 1, 2) }, api.ErrArg},
			{func(w *whole) { w.list[3] = part(4) }, api.ErrNone},
			{func(w *whole) { w.list[3] = part(5, 0) }, api.ErrForm},
		},
		// The values, in the order of the rules.
		{{func(w *whole) {
			w.now.Comps[0].Fields[0].Kind = api.U8
			w.p.Rules[0].Exprs[0] = code(elem(1, 0))
		}, api.ErrRange}},
		{{func(w *whole) { w.p.Rules[1].Exprs[0] = code(num(1), num(0), op(expr.Need)) }, api.ErrFail}},
		{{func(w *whole) { w.p.Rules[2].Exprs[0] = code(num(1), num(0), op(expr.Rem)) }, api.ErrArg}},
		{{func(w *whole) { w.p.Rules[4].Exprs[1] = code(num(32768)) }, api.ErrRange}},
	}
}

func TestWholeFaults(t *testing.T) {
	for i, group := range wholeFaults() {
		for k, x := range group {
			w := goodWhole()
			x.turn(&w)
			if list, e := w.parts(); e != x.want || len(list) > 0 {
				t.Error(i, k, list, e)
			}
			if list, e := readParts(w.old, w.now, w.p, w.list); e != x.want || len(list) > 0 {
				t.Error(i, k, list, e)
			}
		}
	}
}

// TestTwoWholeFaults: the one that the sentence names first is told, unless the
// other one took it away.
func TestTwoWholeFaults(t *testing.T) {
	all, first, other := wholeFaults(), 0, 0
	for i, group := range all {
		for _, x := range group {
			for _, y := range slices.Concat(all[i+1:]...) {
				w := goodWhole()
				y.turn(&w)
				x.turn(&w)
				_, want := readParts(w.old, w.now, w.p, w.list)
				if list, e := w.parts(); e != want || len(list) > 0 {
					t.Error(list, e, want, w)
				}
				if want == x.want {
					first++
				} else {
					other++
				}
			}
		}
	}
	if first < 250 || other > first/20 {
		t.Error(first, other)
	}
}

// TestFaultsOfOthers: a rule whose old component nobody has makes nothing, and
// so can't fail.
func TestFaultsOfOthers(t *testing.T) {
	for i, group := range wholeFaults()[10:] {
		w := goodWhole()
		group[0].turn(&w)
		w.list = []api.Part{part(7, 1), part(5)}
		if list, e := w.parts(); e != api.OK || !sameParts(list, []api.Part{part(24)}) {
			t.Error(i, list, e)
		}
	}
}

func TestManyParts(t *testing.T) {
	dice := rand.New(rand.NewPCG(5, 14))
	seen := map[api.Errno]int{}
	for range 40000 {
		old, now := someScheme(dice, 1), someScheme(dice, 2)
		p := someProgram(dice, old, now)
		list := someParts(dice, old)
		want, e := readParts(old, now, p, list)
		seen[e]++
		if got, f := eval.Parts(old, now, p, list); f != e || !sameParts(got, want) {
			t.Fatal(old, now, p, list, got, f, e)
		}
	}
	for _, e := range []api.Errno{api.OK, api.ErrArg, api.ErrFail, api.ErrForm, api.ErrFull, api.ErrNone, api.ErrRange, api.ErrState, api.ErrType} {
		if seen[e] < 100 {
			t.Error(e, seen)
		}
	}
}

// P14.4

// TestPartsAndSets: who has what set has just the parts of what that becomes,
// and each of them has the new value, and the new row, by its rule.
func TestPartsAndSets(t *testing.T) {
	dice := rand.New(rand.NewPCG(6, 14))
	passed, more := 0, 0
	for range 40000 {
		w := whole{old: someScheme(dice, 1), now: someScheme(dice, 2)}
		w.p = someProgram(dice, w.old, w.now)
		w.list = someParts(dice, w.old)
		list, e := w.parts()
		if e != api.OK {
			continue
		}
		was, e := sig.Parts(w.list)
		is, f := sig.Parts(list)
		if e != api.OK || f != api.OK || eval.Sig(w.p, was) != is || is.Len() != len(list) {
			t.Fatal(w, list)
		}
		passed++
		more += len(list)
		for i, one := range list {
			if i > 0 && list[i-1].Comp >= one.Comp {
				t.Fatal(list)
			}
			if !isMigrated(w, one) {
				t.Fatal(w, one)
			}
		}
	}
	if passed < 10000 || more < 10000 {
		t.Error(passed, more)
	}
}

// isMigrated: whether a new part is what its rule makes of the old one.
func isMigrated(w whole, one api.Part) bool {
	r := w.p.Rules[slices.IndexFunc(w.p.Rules, func(r rule.Rule) bool { return r.New == one.Comp })]
	was := w.old.Comps[slices.IndexFunc(w.old.Comps, func(c api.Comp) bool { return c.Id == r.Old })]
	now := w.now.Comps[slices.IndexFunc(w.now.Comps, func(c api.Comp) bool { return c.Id == one.Comp })]
	before := w.list[slices.IndexFunc(w.list, func(p api.Part) bool { return p.Comp == r.Old })]
	val, e := eval.Value(was, now, r, before.Val)
	row, f := eval.Row(was, now, r, packed(was.Fields, before.Val))
	return e == api.OK && f == api.OK && slices.Equal(val, one.Val) && row == packed(now.Fields, one.Val)
}

// Rules 3 and 4 of DOC.md

func TestPartsAreNew(t *testing.T) {
	for _, group := range append(wholeFaults(), []wholeFault{{func(*whole) {}, api.OK}}) {
		for _, x := range group {
			w, was := goodWhole(), goodWhole()
			x.turn(&w)
			x.turn(&was)
			w.old.Comps, w.now.Comps, w.p.Rules, w.list = roomy(w.old.Comps), roomy(w.now.Comps), roomy(w.p.Rules), roomy(w.list)
			for i := range w.list {
				w.list[i].Val = roomy(w.list[i].Val)
			}
			first, e := w.parts()
			kept := []api.Part{}
			for i, one := range first {
				kept = append(kept, api.Part{Comp: one.Comp, Val: slices.Clone(one.Val)})
				// Room that lists shared would be seen in the others.
				_ = append(one.Val, ints(55, 55, 55, 55)...)
				for k := range one.Val {
					first[i].Val[k] = api.Int{Hi: uint64(1 + i)}
				}
			}
			for i, one := range first {
				for _, y := range one.Val {
					if y != (api.Int{Hi: uint64(1 + i)}) {
						t.Error(i, first)
					}
				}
			}
			if second, f := w.parts(); f != e || !sameParts(second, kept) {
				t.Error(second, kept, e, f)
			}
			eval.Sig(w.p, set(2, 5))
			if !isRoomy(w.old.Comps) || !isRoomy(w.now.Comps) || !isRoomy(w.p.Rules) || !isRoomy(w.list) || !sameWhole(w, was) {
				t.Error(w, was)
			}
			for _, one := range w.list {
				if !isRoomy(one.Val) {
					t.Error(one)
				}
			}
		}
	}
}

func sameWhole(a, b whole) bool {
	sameComp := func(c, d api.Comp) bool {
		return c.Id == d.Id && c.Name == d.Name && slices.Equal(c.Fields, d.Fields)
	}
	return slices.EqualFunc(a.old.Comps, b.old.Comps, sameComp) && slices.EqualFunc(a.now.Comps, b.now.Comps, sameComp) &&
		rule.Same(a.p, b.p) && sameParts(a.list, b.list)
}

// FuzzParts asks programs out of bytes, of schemas and parts out of a number.
func FuzzParts(f *testing.F) {
	for n := range uint64(9) {
		dice := rand.New(rand.NewPCG(n, 41))
		bytes, _ := rule.Encode(someProgram(dice, someScheme(dice, 1), someScheme(dice, 2)))
		f.Add(n, bytes)
	}
	f.Fuzz(func(t *testing.T, n uint64, bytes string) {
		dice := rand.New(rand.NewPCG(n, 41))
		old, now := someScheme(dice, 1), someScheme(dice, 2)
		list := someParts(dice, old)
		p, _ := rule.Decode(bytes)
		w := goodWhole()
		w.p = p
		for _, w := range []whole{{old, now, p, list}, {old, now, someProgram(dice, old, now), list}, w} {
			want, e := readParts(w.old, w.now, w.p, w.list)
			if got, f := w.parts(); f != e || !sameParts(got, want) {
				t.Error(w, got, f, e)
			}
		}
	})
}
