package check_test

import (
	"math/rand/v2"
	"reflect"
	"slices"
	"testing"

	"retrofit/api"
	"retrofit/check"
	"retrofit/expr"
	"retrofit/rule"
	"retrofit/schema"
)

// P13.1

func TestFormulaByHand(t *testing.T) {
	top := expr.Ins{Op: expr.Num, K: api.Int{Hi: 1<<63 - 1, Lo: 1<<64 - 1}}
	for i, x := range []struct {
		f    api.Field
		code []expr.Ins
		want api.Errno
	}{
		// The formula by itself comes first.
		{of("y", api.U8, 1), nil, api.ErrForm},
		{of("y", api.U8, 1), code(op(0)), api.ErrForm},
		{of("y", api.U8, 1), code(here(8)), api.ErrForm},
		{of("y", api.U8, 1), code(elem(0, 8)), api.ErrForm},
		{of("y", api.U8, 1), code(elem(7, 0), op(expr.Add)), api.ErrForm},
		{of("y", api.Ref, 1), code(elem(0, 0), elem(2, 0)), api.ErrForm},
		{of("y", api.U8, 1), long(65), api.ErrFull},
		{of("y", api.Ref, 1), long(65), api.ErrFull},
		{of("y", api.U8, 1), append(code(elem(7, 7)), make([]expr.Ins, 64)...), api.ErrFull},
		{of("y", api.U8, 1), long(64), api.OK},

		// Fields that there are, and their elements.
		{of("y", api.U8, 1), code(elem(0, 0)), api.OK},
		{of("y", api.U8, 1), code(elem(0, 1)), api.ErrRange},
		{of("y", api.U8, 1), code(elem(1, 2)), api.OK},
		{of("y", api.U8, 1), code(elem(1, 3)), api.ErrRange},
		{of("y", api.U8, 1), code(elem(4, 7)), api.OK},
		{of("y", api.U8, 1), code(elem(5, 0)), api.ErrRange},
		{of("y", api.U8, 1), code(here(5)), api.ErrRange},
		{of("y", api.U8, 1), code(here(7)), api.ErrRange},
		{of("y", api.Ref, 1), code(elem(5, 0)), api.ErrRange},
		// An Elem asks for its own element alone, whatever the new Count.
		{of("y", api.U8, 8), code(elem(0, 0)), api.OK},
		{of("y", api.Ref, 8), code(elem(2, 0)), api.OK},
		// A Here asks for all places of the new field; its B plays no part.
		{of("y", api.U8, 1), code(here(0)), api.OK},
		{of("y", api.U8, 2), code(here(0)), api.ErrRange},
		{of("y", api.U8, 2), code(here(1)), api.OK},
		{of("y", api.U8, 3), code(here(1)), api.OK},
		{of("y", api.U8, 4), code(here(1)), api.ErrRange},
		{of("y", api.U8, 8), code(here(4)), api.OK},
		{of("y", api.U8, 1), code(expr.Ins{Op: expr.Here, B: 7}), api.OK},
		{of("y", api.Ref, 3), code(here(3)), api.OK},
		{of("y", api.Ref, 4), code(here(3)), api.ErrRange},
		{of("y", api.Ref, 2), code(here(2)), api.ErrRange},
		// The place, and numbers, ask for nothing.
		{of("y", api.Bool, 8), code(op(expr.Place)), api.OK},
		{of("y", api.Bool, 8), code(top), api.OK},

		// The chapter's example, and the other way around.
		{of("y", api.I32, 1), code(elem(2, 0)), api.ErrType},
		{of("y", api.I32, 1), code(here(2)), api.ErrType},
		{of("y", api.U64, 1), code(here(2)), api.ErrType},
		{of("y", api.Ref, 1), code(elem(0, 0)), api.ErrType},
		{of("y", api.Ref, 1), code(here(0)), api.ErrType},
		// What kind of number it is plays no part.
		{of("y", api.Bool, 1), code(elem(1, 0)), api.OK},
		{of("y", api.I64, 1), code(here(4)), api.OK},

		// There is no such element, ahead of its kind.
		{of("y", api.I32, 1), code(elem(2, 1)), api.ErrRange},
		{of("y", api.I32, 2), code(here(2)), api.ErrRange},
		{of("y", api.Ref, 1), code(elem(0, 1)), api.ErrRange},
		{of("y", api.Ref, 2), code(here(0)), api.ErrRange},
		// But the first element that is wrong is told.
		{of("y", api.I32, 1), added(elem(2, 0), elem(0, 1)), api.ErrType},
		{of("y", api.I32, 1), added(elem(0, 1), elem(2, 0)), api.ErrRange},
		{of("y", api.I32, 1), added(elem(0, 0), num(7), here(2), here(5)), api.ErrType},
		{of("y", api.I32, 2), added(elem(0, 0), num(7), here(1), here(0), here(2)), api.ErrRange},
		{of("y", api.I32, 3), added(elem(0, 0), here(1), op(expr.Place), here(4), elem(4, 7)), api.OK},

		// A Ref is reckoned from nothing.
		{of("y", api.Ref, 1), code(elem(2, 0)), api.OK},
		{of("y", api.Ref, 1), code(elem(3, 2)), api.OK},
		{of("y", api.Ref, 1), code(here(2)), api.OK},
		{of("y", api.Ref, 1), code(num(0)), api.OK},
		{of("y", api.Ref, 8), code(num(0)), api.OK},
		{of("y", api.Ref, 1), code(expr.Ins{Op: expr.Num, A: 7, B: 7}), api.OK},
		{of("y", api.Ref, 1), code(num(1)), api.ErrType},
		{of("y", api.Ref, 1), code(num(-1)), api.ErrType},
		{of("y", api.Ref, 1), code(expr.Ins{Op: expr.Num, K: api.Int{Hi: 1}}), api.ErrType},
		{of("y", api.Ref, 1), code(top), api.ErrType},
		{of("y", api.Ref, 1), code(op(expr.Place)), api.ErrType},
		{of("y", api.Ref, 1), code(num(0), op(expr.Neg)), api.ErrType},
		{of("y", api.Ref, 1), code(here(2), op(expr.Not)), api.ErrType},
		{of("y", api.Ref, 1), code(num(1), here(2), num(0), op(expr.Pick)), api.ErrType},
		{of("y", api.Ref, 1), code(here(2), num(1), op(expr.Need)), api.ErrType},
		{of("y", api.Ref, 1), added(here(2), elem(2, 1)), api.ErrRange},
		{of("y", api.Ref, 1), added(op(expr.Place), here(6)), api.ErrRange},
		{of("y", api.Ref, 1), long(64), api.ErrType},
	} {
		if e := check.Formula(mixed(), x.f, x.code); e != x.want {
			t.Error(i, e)
		}
		if e := formula(mixed(), x.f, x.code); e != x.want {
			t.Error(i, e)
		}
	}
}

// TestFormulaOfRawFields asks what no schema has.
func TestFormulaOfRawFields(t *testing.T) {
	raw := comp(minInt, "", of("", 0, 0), of("", 11, minInt), of("", -1, maxInt), of("", api.Ref, 0))
	for i, x := range []struct {
		old  api.Comp
		f    api.Field
		code []expr.Ins
		want api.Errno
	}{
		{api.Comp{}, api.Field{}, code(here(0)), api.ErrRange},
		{api.Comp{}, api.Field{}, code(elem(0, 0)), api.ErrRange},
		{api.Comp{}, api.Field{}, code(num(7)), api.OK},
		{raw, of("", 0, 0), code(elem(0, 0)), api.ErrRange},
		{raw, of("", 0, 0), code(here(0)), api.OK},
		{raw, of("", 77, minInt), code(here(1)), api.OK},
		{raw, of("", 77, minInt+1), code(here(1)), api.ErrRange},
		{raw, of("", 77, 0), code(elem(1, 0)), api.ErrRange},
		{raw, of("", 77, maxInt), code(here(2)), api.OK},
		{raw, of("", 77, 0), code(elem(2, 7)), api.OK},
		{raw, of("", api.Ref, 0), code(here(2)), api.ErrType},
		{raw, of("", api.Ref, -1), code(here(3)), api.OK},
		{raw, of("", api.Ref, 1), code(here(3)), api.ErrRange},
		{raw, of("", 9, 0), code(here(3)), api.ErrType},
		{comp(1, "", slices.Repeat(mixed().Fields, 9)...), of("", api.U8, 3), code(here(6)), api.OK},
	} {
		if e := check.Formula(x.old, x.f, x.code); e != x.want {
			t.Error(i, e)
		}
	}
}

func TestFormulaOfAllKindsAndCounts(t *testing.T) {
	seen := map[api.Errno]int{}
	list := codes()
	for k := api.Kind(-1); k < 13; k++ {
		for _, n := range []int{minInt, -1, 0, 1, 2, 3, 4, 7, 8, 9, maxInt} {
			for _, c := range list {
				f := of("y", k, n)
				want := formula(mixed(), f, c)
				seen[want]++
				if e := check.Formula(mixed(), f, c); e != want {
					t.Fatal(f, c, e, want)
				}
			}
		}
	}
	for _, e := range []api.Errno{api.OK, api.ErrRange, api.ErrType, api.ErrForm, api.ErrFull} {
		if seen[e] < 100 {
			t.Error(e, seen)
		}
	}
}

func TestFormulaOfEachOldKind(t *testing.T) {
	for was := api.Kind(-1); was < 13; was++ {
		for now := api.Kind(-1); now < 13; now++ {
			for n := range 10 {
				old := comp(1, "a", of("x", api.U8, 8), of("y", was, n))
				want := api.OK
				if (was == api.Ref) != (now == api.Ref) {
					want = api.ErrType
				}
				for b := range 8 {
					if e := check.Formula(old, of("z", now, 1), code(elem(1, b))); b < n && e != want || b >= n && e != api.ErrRange {
						t.Error(was, now, n, b, e)
					}
				}
				for m := range 10 {
					if e := check.Formula(old, of("z", now, m), code(here(1))); m <= n && e != want || m > n && e != api.ErrRange {
						t.Error(was, now, n, m, e)
					}
				}
			}
		}
	}
}

// P13.2

func TestRuleByHand(t *testing.T) {
	now := comp(9, "now", of("x", api.U8, 1), of("r", api.Ref, 2), of("y", api.I16, 3))
	x, r, y := code(elem(1, 2), num(2), op(expr.Mul)), code(here(3)), code(here(1))
	for i, z := range []struct {
		old, now api.Comp
		r        rule.Rule
		want     api.Errno
	}{
		{mixed(), now, made(9, 4, x, r, y), api.OK},
		{mixed(), comp(9, "now"), made(9, 4), api.OK},
		{api.Comp{}, api.Comp{}, made(9, 4), api.OK},

		// A fresh one may have anything.
		{mixed(), now, fresh(9), api.OK},
		{api.Comp{}, now, fresh(0), api.OK},
		{mixed(), now, made(9, 0, x, r, y), api.OK},
		{mixed(), now, made(9, 0, nil, nil), api.OK},
		{mixed(), comp(9, "now"), made(9, 0, long(70)), api.OK},

		// Ids and names play no part.
		{comp(77, "", mixed().Fields...), now, made(9, 4, x, r, y), api.OK},
		{mixed(), comp(-1, "?", now.Fields...), made(9, 4, x, r, y), api.OK},
		{mixed(), now, made(minInt, minInt, x, r, y), api.OK},
		{mixed(), now, made(maxInt, -1, x, r), api.ErrForm},
		{mixed(), now, made(0, 25, r, r, y), api.ErrType},

		// How many there are comes ahead of all formulas.
		{mixed(), now, made(9, 4), api.ErrForm},
		{mixed(), now, made(9, 4, x, r), api.ErrForm},
		{mixed(), now, made(9, 4, x, r, y, y), api.ErrForm},
		{mixed(), now, made(9, 4, r, r), api.ErrForm},
		{mixed(), now, made(9, 4, long(65), long(65), long(65), long(65)), api.ErrForm},
		{mixed(), comp(9, "now"), made(9, 4, x), api.ErrForm},
		{mixed(), now, rule.Rule{Old: 4, Exprs: make([][]expr.Ins, 1000)}, api.ErrForm},

		// Each formula is of the field at its place, and the first one that is
		// wrong is told.
		{mixed(), now, made(9, 4, r, x, y), api.ErrType},
		{mixed(), now, made(9, 4, x, y, r), api.ErrType},
		{mixed(), now, made(9, 4, y, r, x), api.OK},
		{mixed(), now, made(9, 4, code(here(0)), r, y), api.OK},
		{mixed(), now, made(9, 4, x, r, code(here(0))), api.ErrRange},
		{mixed(), now, made(9, 4, x, code(here(2)), y), api.ErrRange},
		{mixed(), now, made(9, 4, code(elem(0, 1)), y, nil), api.ErrRange},
		{mixed(), now, made(9, 4, x, y, nil), api.ErrType},
		{mixed(), now, made(9, 4, x, nil, r), api.ErrForm},
		{mixed(), now, made(9, 4, x, r, nil), api.ErrForm},
		{mixed(), now, made(9, 4, x, long(65), nil), api.ErrFull},
		{mixed(), now, made(9, 4, nil, long(65), nil), api.ErrForm},
		// It isn't asked whether formulas have bytes, nor how many are too many.
		{mixed(), comp(9, "now", of("x", api.U8, 1)), made(9, 4, code(expr.Ins{Op: expr.Place, A: 7})), api.OK},
		{mixed(), comp(9, "now", slices.Repeat(now.Fields, 9)...), made(9, 4, slices.Repeat([][]expr.Ins{x, r, y}, 9)...), api.OK},
	} {
		if e := check.Rule(z.old, z.now, z.r); e != z.want {
			t.Error(i, e)
		}
		if e := ofRule(z.old, z.now, z.r); e != z.want {
			t.Error(i, e)
		}
	}
}

func TestManyRules(t *testing.T) {
	dice := rand.New(rand.NewPCG(2, 13))
	seen := map[api.Errno]int{}
	for range 200000 {
		old, now := comp(1, "a", someFields(dice)...), comp(2, "b", someFields(dice)...)
		r := made(2, 1-dice.IntN(50)/49, plainCodes(old, now)...)
		for i := range r.Exprs {
			if dice.IntN(2) == 0 {
				r.Exprs[i] = someCode(dice)
			}
		}
		if dice.IntN(10) == 0 {
			r.Exprs = append(r.Exprs, someCode(dice))
		}
		want := ofRule(old, now, r)
		seen[want]++
		if e := check.Rule(old, now, r); e != want {
			t.Fatal(old, now, r, e, want)
		}
	}
	for _, e := range []api.Errno{api.OK, api.ErrRange, api.ErrType, api.ErrForm, api.ErrFull} {
		if seen[e] < 300 {
			t.Error(e, seen)
		}
	}
}

// P13.3

// move is two schemas, and a program from one to the other one.
type move struct {
	old, now api.Schema
	p        rule.Program
}

func (m move) check() api.Errno { return check.Check(m.old, m.now, m.p) }

// good has rules of all kinds: one with formulas, a fresh one, one whose old
// component is of another Id, and one without fields. Nothing is made of the
// old component 24.
func good() move {
	old := scheme(3, comp(2, "body", of("pos", api.I16, 2), of("boss", api.Ref, 1)), comp(5, "tag"), comp(24, "last", of("x", api.U8, 1)))
	now := scheme(7,
		comp(2, "corpus", of("x", api.I32, 1), of("y", api.I32, 1), of("boss", api.Ref, 2)),
		comp(3, "new", of("n", api.U8, 8)), comp(4, "pos", of("pos", api.I64, 2)), comp(5, "flag"))
	p := prog(3, 7, made(2, 2, code(elem(0, 0)), code(elem(0, 1)), code(num(0))), fresh(3), made(4, 2, code(here(0))), made(5, 24))
	return move{old: old, now: now, p: p}
}

// fault is one way to go wrong.
type fault struct {
	turn func(m *move)
	want api.Errno
}

// faults are all kinds of them, those that are told first ahead; those in one
// group are told alike.
func faults() [][]fault {
	longRow := []api.Field{of("a", api.U64, 8), of("b", api.U64, 8), of("c", api.U64, 8), of("d", api.U64, 8), of("e", api.Bool, 1)}
	wrongSchemas := func(of func(m *move) *api.Schema) []fault {
		return []fault{
			{func(m *move) { of(m).Version = 0 }, api.ErrArg},
			{func(m *move) { of(m).Version = 1<<30 + 1 }, api.ErrArg},
			{func(m *move) { of(m).Comps[0].Id = 0 }, api.ErrArg},
			{func(m *move) { of(m).Comps[0].Id = 24 }, api.ErrArg},
			{func(m *move) { of(m).Comps[1].Name = of(m).Comps[0].Name }, api.ErrForm},
			{func(m *move) { of(m).Comps[0].Fields[1].Name = "" }, api.ErrForm},
			{func(m *move) { of(m).Comps[0].Fields[0].Count = 9 }, api.ErrArg},
			{func(m *move) { of(m).Comps[0].Fields[0].Kind = 11 }, api.ErrArg},
			{func(m *move) { of(m).Comps[1].Fields = longRow }, api.ErrFull},
		}
	}
	return [][]fault{
		wrongSchemas(func(m *move) *api.Schema { return &m.old }),
		wrongSchemas(func(m *move) *api.Schema { return &m.now }),
		{
			{func(m *move) { m.p.From = 0 }, api.ErrArg},
			{func(m *move) { m.p.To = 1<<30 + 1 }, api.ErrArg},
			{func(m *move) { m.p.Rules[0].New = 0 }, api.ErrArg},
			{func(m *move) { m.p.Rules[1].New = 2 }, api.ErrArg},
			{func(m *move) { m.p.Rules[0].Old = 25 }, api.ErrArg},
			{func(m *move) { m.p.Rules[0].Old = -1 }, api.ErrArg},
			{func(m *move) { m.p.Rules[1].Exprs = [][]expr.Ins{code(num(0))} }, api.ErrForm},
			{func(m *move) { m.p.Rules[0].Old = 0 }, api.ErrForm},
			{func(m *move) { m.p.Rules[0].Exprs = make([][]expr.Ins, 9) }, api.ErrFull},
			{func(m *move) { m.p.Rules[0].Exprs[1] = nil }, api.ErrForm},
			{func(m *move) { m.p.Rules[0].Exprs[2] = long(65) }, api.ErrFull},
			{func(m *move) { m.p.Rules[0].Exprs[0] = code(expr.Ins{Op: expr.Here, B: 1}) }, api.ErrArg},
		},
		{
			{func(m *move) { m.p.From = 2 }, api.ErrState},
			{func(m *move) { m.p.From = 4 }, api.ErrState},
			{func(m *move) { m.p.To = 6 }, api.ErrState},
			{func(m *move) { m.p.To = 8 }, api.ErrState},
			{func(m *move) { m.p.To = 1 << 30 }, api.ErrState},
			{func(m *move) { m.p.From, m.p.To = 7, 3 }, api.ErrState},
			{func(m *move) { m.p.To, m.now.Version = 3, 3 }, api.ErrState},
			{func(m *move) { m.p.To, m.now.Version = 2, 2 }, api.ErrState},
		},
		{
			{func(m *move) { m.p.Rules = m.p.Rules[:3] }, api.ErrNone},
			{func(m *move) { m.p.Rules = append(m.p.Rules[:1], m.p.Rules[2:]...) }, api.ErrNone},
			{func(m *move) { m.p.Rules[3].New = 6 }, api.ErrNone},
			{func(m *move) { m.p.Rules = append(m.p.Rules, fresh(6)) }, api.ErrNone},
			{func(m *move) { m.p.Rules = append(m.p.Rules, made(24, 24)) }, api.ErrNone},
			{func(m *move) { m.p.Rules = nil }, api.ErrNone},
			{func(m *move) { m.now.Comps = m.now.Comps[:3] }, api.ErrNone},
			{func(m *move) { m.p.Rules[3].Old = 3 }, api.ErrNone},
			{func(m *move) { m.p.Rules[2].Old = 23 }, api.ErrNone},
			{func(m *move) { m.old.Comps = m.old.Comps[:2] }, api.ErrNone},
		},
		// The rules by their order.
		{
			{func(m *move) { m.p.Rules[0].Exprs = m.p.Rules[0].Exprs[:2] }, api.ErrForm},
			{func(m *move) { m.p.Rules[0].Exprs = append(m.p.Rules[0].Exprs, code(num(0))) }, api.ErrForm},
			{func(m *move) { m.p.Rules[0].Exprs = nil }, api.ErrForm},
		},
		{{func(m *move) { m.p.Rules[0].Exprs[0] = code(elem(0, 2)) }, api.ErrRange}},
		{
			{func(m *move) { m.p.Rules[0].Exprs[1] = code(elem(1, 0)) }, api.ErrType},
			{func(m *move) { m.p.Rules[0].Exprs[1] = code(here(1)) }, api.ErrType},
		},
		{{func(m *move) { m.p.Rules[0].Exprs[2] = code(here(1)) }, api.ErrRange}},
		{
			{func(m *move) { m.p.Rules[2].Old = 24 }, api.ErrRange},
			{func(m *move) { m.p.Rules[2].Exprs[0] = code(elem(2, 0)) }, api.ErrRange},
		},
		{{func(m *move) { m.p.Rules[3].Exprs = [][]expr.Ins{code(num(0))} }, api.ErrForm}},
	}
}

func TestGoodMoves(t *testing.T) {
	for i, turn := range []func(m *move){
		func(m *move) {},
		func(m *move) { m.p.Rules[1].Old = 24; m.p.Rules[1].Exprs = [][]expr.Ins{code(elem(0, 0))} },
		func(m *move) { m.p.Rules[0] = fresh(2) },
		func(m *move) { m.p.Rules[3] = made(5, 5) },
		func(m *move) { m.p.Rules[3] = fresh(5) },
		func(m *move) { m.old.Version, m.p.From = 1, 1; m.now.Version, m.p.To = 1<<30, 1<<30 },
		func(m *move) { m.old.Version, m.p.From = 6, 6 },
		func(m *move) { m.now.Comps, m.p.Rules = nil, nil },
		func(m *move) { m.now.Comps, m.p.Rules = m.now.Comps[:2], m.p.Rules[:2] },
		func(m *move) { m.old.Comps, m.now.Comps, m.p.Rules = nil, m.now.Comps[1:2], m.p.Rules[1:2] },
		func(m *move) { m.p.Rules[0].Exprs[2] = code(elem(1, 0)) },
	} {
		m := good()
		turn(&m)
		if e := m.check(); e != api.OK {
			t.Error(i, e)
		}
	}
}

func TestFaults(t *testing.T) {
	for i, group := range faults() {
		for j, x := range group {
			m := good()
			x.turn(&m)
			if e := m.check(); e != x.want {
				t.Error(i, j, e)
			}
		}
	}
}

// TestTwoFaults: the one that the sentence names first is told, in whatever
// order they came, unless the other one took it away.
func TestTwoFaults(t *testing.T) {
	all, first, other := faults(), 0, 0
	for i, group := range all {
		for _, x := range group {
			for _, y := range slices.Concat(all[i+1:]...) {
				for _, both := range [][]func(m *move){{x.turn, y.turn}, {y.turn, x.turn}} {
					m := good()
					if !done(&m, both) {
						continue
					}
					want := checked(m.old, m.now, m.p)
					if e := m.check(); e != want {
						t.Error(e, want, m)
					}
					if want == x.want {
						first++
					} else {
						other++
					}
				}
			}
		}
	}
	if first < 2000 || other > first/20 {
		t.Error(first, other)
	}
}

// done: whether all turns could be made; one may have taken what another one
// turns.
func done(m *move, turns []func(m *move)) (is bool) {
	defer func() { is = recover() == nil }()
	for _, turn := range turns {
		turn(m)
	}
	return true
}

func TestVersions(t *testing.T) {
	list := []int{1, 2, 3, 7, 8, 255, 256, 1<<30 - 1, 1 << 30}
	for _, a := range list {
		for _, b := range list {
			for _, from := range list {
				for _, to := range list {
					want := api.ErrState
					if from == a && to == b && a < b {
						want = api.OK
					}
					if e := check.Check(scheme(a), scheme(b), prog(from, to)); e != want {
						t.Error(a, b, from, to, e)
					}
				}
			}
		}
	}
}

func TestIds(t *testing.T) {
	const ids = 4
	// Which of the Ids 1 to 4 both schemas and the rules have, and whose all
	// rules are.
	for olds := range 1 << ids {
		for news := range 1 << ids {
			for rules := range 1 << ids {
				for was := range ids + 2 {
					old, now, p := scheme(1), scheme(2), prog(1, 2)
					for id := 1; id <= ids; id++ {
						bit, c := 1<<(id-1), comp(id, "c"+string(rune('a'+id)))
						if olds&bit != 0 {
							old.Comps = append(old.Comps, c)
						}
						if news&bit != 0 {
							now.Comps = append(now.Comps, c)
						}
						if rules&bit != 0 {
							p.Rules = append(p.Rules, made(id, was))
						}
					}
					want := api.ErrNone
					if news == rules && (was == 0 || olds&(1<<was>>1) != 0 || rules == 0) {
						want = api.OK
					}
					if e := check.Check(old, now, p); e != want {
						t.Fatal(olds, news, rules, was, e)
					}
				}
			}
		}
	}
}

func TestManyChecks(t *testing.T) {
	dice := rand.New(rand.NewPCG(3, 13))
	seen := map[api.Errno]int{}
	for range 100000 {
		a := 1 + dice.IntN(3)
		old, now := someScheme(dice, a), someScheme(dice, a+1+dice.IntN(3)-dice.IntN(30)/29*3)
		p := plain(old, now)
		for range dice.IntN(3) {
			turn(dice, &p)
		}
		want := checked(old, now, p)
		seen[want]++
		if e := check.Check(old, now, p); e != want {
			t.Fatal(old, now, tell(p), e, want)
		}
	}
	for _, e := range []api.Errno{api.OK, api.ErrArg, api.ErrForm, api.ErrFull, api.ErrState, api.ErrNone, api.ErrRange, api.ErrType} {
		if seen[e] < 100 {
			t.Error(e, seen)
		}
	}
}

// Rule 3 of DOC.md

func TestArgumentsStay(t *testing.T) {
	for _, group := range append(faults(), []fault{{func(m *move) {}, api.OK}}) {
		for _, x := range group {
			m, was := good(), good()
			x.turn(&m)
			x.turn(&was)
			// Room behind the lists is filled, and must stay so too.
			m.old.Comps, m.now.Comps, m.p.Rules = roomy(m.old.Comps), roomy(m.now.Comps), roomy(m.p.Rules)
			m.check()
			for at, r := range m.p.Rules {
				r.Exprs = roomy(r.Exprs)
				check.Rule(good().old.Comps[0], good().now.Comps[min(at, 3)], r)
				for _, c := range r.Exprs {
					c = roomy(c)
					check.Formula(mixed(), of("x", api.U8, 1), c)
					if !isRoomy(c) {
						t.Error(c)
					}
				}
				if !isRoomy(r.Exprs) {
					t.Error(r)
				}
			}
			check.Plain(m.old, m.now)
			if !isRoomy(m.old.Comps) || !isRoomy(m.now.Comps) || !isRoomy(m.p.Rules) {
				t.Error(m)
			}
			if !schema.Same(m.old, was.old) || !schema.Same(m.now, was.now) || tell(m.p) != tell(was.p) {
				t.Error(m, was)
			}
		}
	}
}

// roomy is the same list with room behind it, that is 0.
func roomy[T any](list []T) []T {
	return append(slices.Clone(list), make([]T, 3)...)[:len(list)]
}

// isRoomy: whether that room is still 0.
func isRoomy[T any](list []T) bool {
	room := list[len(list) : len(list)+3]
	return reflect.DeepEqual(room, make([]T, 3))
}

// FuzzCheck asks programs out of bytes, of schemas out of a number.
func FuzzCheck(f *testing.F) {
	m := good()
	bytes, _ := rule.Encode(m.p)
	f.Add(uint64(1), bytes)
	for n := range uint64(9) {
		dice := rand.New(rand.NewPCG(n, 13))
		bytes, _ := rule.Encode(plain(someScheme(dice, 1), someScheme(dice, 2)))
		f.Add(n, bytes)
	}
	f.Fuzz(func(t *testing.T, n uint64, bytes string) {
		dice := rand.New(rand.NewPCG(n, 13))
		old, now := someScheme(dice, 1), someScheme(dice, 2)
		p, _ := rule.Decode(bytes)
		if e := check.Check(old, now, p); e != checked(old, now, p) {
			t.Error(e, old, now, tell(p))
		}
		if e := check.Check(m.old, m.now, p); e != checked(m.old, m.now, p) {
			t.Error(e, tell(p))
		}
		for _, r := range p.Rules {
			for _, old := range old.Comps {
				for _, now := range now.Comps {
					if e := check.Rule(old, now, r); e != ofRule(old, now, r) {
						t.Error(e, old, now, r)
					}
				}
			}
		}
	})
}
