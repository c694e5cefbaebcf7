package eval_test

import (
	"math/big"
	"math/rand/v2"
	"reflect"
	"slices"
	"strings"
	"testing"

	"retrofit/api"
	"retrofit/eval"
	"retrofit/expr"
	"retrofit/layout"
	"retrofit/rule"
	"retrofit/wide"
)

// move is one component's, of a value or a row.
type move struct {
	old, now api.Comp
	r        rule.Rule
	val      []api.Int
	row      string
}

// good has fields of all that is told apart, and formulas that can fail. The
// old row has a gap behind a and k.
func good() move {
	old := comp(4, "was", of("a", api.U8, 1), of("b", api.I64, 3), of("r", api.Ref, 2), of("k", api.Bool, 2))
	now := comp(9, "now", of("s", api.I16, 1), of("t", api.I8, 3), of("q", api.Ref, 2), of("u", api.U32, 2), of("v", api.Bool, 1))
	val := ints(200, -5, 7, 100, 77, 1<<40, 1, 0)
	r := made(9, 4,
		code(elem(0, 0), elem(0, 0), op(expr.Mul), num(7250), op(expr.Sub)),
		code(here(1)),
		code(here(2)),
		code(here(1), op(expr.Place), op(expr.Sub), num(6), op(expr.Add)),
		code(elem(3, 0)))
	return move{old, now, r, val, packed(old.Fields, val)}
}

// isValue: whether a value becomes just another one, and its row that one's.
func isValue(m move, want []api.Int) bool {
	val, e := eval.Value(m.old, m.now, m.r, m.val)
	row, f := eval.Row(m.old, m.now, m.r, packed(m.old.Fields, m.val))
	return e == api.OK && slices.Equal(val, want) && f == api.OK && row == packed(m.now.Fields, want)
}

func isNoValue(m move, want api.Errno) bool {
	val, e := eval.Value(m.old, m.now, m.r, m.val)
	return e == want && len(val) == 0
}

func isNoRow(m move, want api.Errno) bool {
	row, e := eval.Row(m.old, m.now, m.r, m.row)
	return e == want && row == ""
}

// isNothing: whether neither the value nor the row becomes anything.
func isNothing(m move, want api.Errno) bool {
	m.row = packed(m.old.Fields, m.val)
	return isNoValue(m, want) && isNoRow(m, want)
}

// long is a formula of 64 instructions: the element at the place, and 63.
func long(a int) []expr.Ins {
	list := code(here(a))
	for range 21 {
		list = append(list, num(-3), op(expr.Neg), op(expr.Add))
	}
	return list
}

// P14.1

func TestValueByHand(t *testing.T) {
	old := []api.Field{of("x", api.I16, 1), of("y", api.U8, 3)}
	val := ints(-300, 10, 20, 30)
	for i, x := range []struct {
		now  []api.Field
		list [][]expr.Ins
		want []api.Int
	}{
		{nil, nil, nil},
		{[]api.Field{of("x", api.I32, 1)}, [][]expr.Ins{code(elem(0, 0))}, ints(-300)},
		{[]api.Field{of("x", api.I32, 3)}, [][]expr.Ins{code(elem(0, 0))}, ints(-300, -300, -300)},
		{[]api.Field{of("x", api.I8, 3)}, [][]expr.Ins{code(here(1))}, ints(10, 20, 30)},
		{[]api.Field{of("x", api.I8, 2)}, [][]expr.Ins{code(here(1))}, ints(10, 20)},
		{[]api.Field{of("x", api.I8, 2)}, [][]expr.Ins{code(elem(1, 2))}, ints(30, 30)},
		{[]api.Field{of("x", api.Bool, 2)}, [][]expr.Ins{code(op(expr.Place))}, ints(0, 1)},
		{[]api.Field{of("x", api.U8, 8)}, [][]expr.Ins{code(op(expr.Place))}, ints(0, 1, 2, 3, 4, 5, 6, 7)},
		// Each field's places begin at 0.
		{[]api.Field{of("x", api.U8, 3), of("y", api.U8, 2), of("z", api.U8, 1)},
			[][]expr.Ins{code(op(expr.Place)), code(here(1)), code(here(0), op(expr.Neg), num(100), op(expr.Sub))},
			ints(0, 1, 2, 10, 20, 200)},
		// Only the numbers that are left in the end must fit.
		{[]api.Field{of("x", api.Bool, 1)}, [][]expr.Ins{code(elem(0, 0), num(1<<62), op(expr.Mul), num(0), op(expr.Less))}, ints(1)},
		{[]api.Field{of("x", api.U64, 3)}, [][]expr.Ins{code(num(1<<62), num(1<<62), op(expr.Mul), here(1), op(expr.Add), num(1<<62), op(expr.Quo))}, ints(1<<62, 1<<62, 1<<62)},
		// What Pick leaves is gone, and so is what isn't kept.
		{[]api.Field{of("x", api.I64, 3)}, [][]expr.Ins{code(op(expr.Place), here(1), elem(0, 0), op(expr.Pick))}, ints(-300, 20, 30)},
		{[]api.Field{of("x", api.I64, 3)}, [][]expr.Ins{code(here(1), here(1), op(expr.Need))}, ints(10, 20, 30)},
		{[]api.Field{of("x", api.U8, 3), of("y", api.U8, 3)}, [][]expr.Ins{code(num(9)), code(num(255))}, ints(9, 9, 9, 255, 255, 255)},
		{[]api.Field{of("r", api.Ref, 2)}, [][]expr.Ins{code(num(0))}, ints(0, 0)},
		{[]api.Field{of("x", api.U8, 2)}, [][]expr.Ins{long(1)}, ints(73, 83)},
	} {
		m := move{old: comp(1, "a", old...), now: comp(2, "b", x.now...), r: made(2, 1, x.list...), val: val}
		if !isValue(m, x.want) {
			val, e := eval.Value(m.old, m.now, m.r, m.val)
			t.Error(i, val, e)
		}
		if list, e := readValue(m.old, m.now, m.r, m.val); e != api.OK || !slices.Equal(list, x.want) {
			t.Error(i, list, e)
		}
	}
	m := good()
	want := ints(32750, -5, 7, 100, 77, 1<<40, 1, 12, 1)
	if !isValue(m, want) {
		t.Error("good")
	}
	if list, e := readValue(m.old, m.now, m.r, m.val); e != api.OK || !slices.Equal(list, want) {
		t.Error(list, e)
	}
}

// TestExample is the chapter's.
func TestExample(t *testing.T) {
	m := move{old: comp(1, "a", of("x", api.I8, 1)), now: comp(1, "a", of("x", api.I8, 1)), val: ints(100)}
	m.r = made(1, 1, code(elem(0, 0), num(2), op(expr.Mul)))
	if !isNothing(m, api.ErrRange) {
		t.Error("as i8")
	}
	m.now.Fields = []api.Field{of("x", api.I16, 1)}
	if !isValue(m, ints(200)) {
		t.Error("as i16")
	}
}

// TestElementsInOrder: the first element that can't be is told.
func TestElementsInOrder(t *testing.T) {
	old := comp(1, "a", of("x", api.I16, 3), of("y", api.U8, 1))
	// Each one fails at a place alone.
	fail := func(at int) []expr.Ins {
		return code(num(5), op(expr.Place), num(at), op(expr.Same), op(expr.Not), op(expr.Need))
	}
	divide := func(at int) []expr.Ins {
		return code(num(5), op(expr.Place), num(at), op(expr.Sub), op(expr.Quo))
	}
	great := func(at int) []expr.Ins {
		return code(op(expr.Place), num(at), op(expr.Same), num(300), num(7), op(expr.Pick))
	}
	for i, x := range []struct {
		list [][]expr.Ins
		want api.Errno
	}{
		{[][]expr.Ins{fail(3), divide(3), great(3)}, api.OK},
		{[][]expr.Ins{fail(0), divide(3), great(3)}, api.ErrFail},
		{[][]expr.Ins{fail(3), divide(0), great(3)}, api.ErrArg},
		{[][]expr.Ins{fail(3), divide(3), great(0)}, api.ErrRange},
		{[][]expr.Ins{fail(2), divide(3), great(3)}, api.ErrFail},
		{[][]expr.Ins{fail(3), divide(2), great(3)}, api.ErrArg},
		{[][]expr.Ins{fail(3), divide(3), great(2)}, api.ErrRange},
		// A field's last element comes ahead of the next one's first.
		{[][]expr.Ins{fail(2), divide(0), great(0)}, api.ErrFail},
		{[][]expr.Ins{divide(2), fail(0), great(0)}, api.ErrArg},
		{[][]expr.Ins{great(2), fail(0), divide(0)}, api.ErrRange},
		{[][]expr.Ins{fail(3), divide(2), great(0)}, api.ErrArg},
		{[][]expr.Ins{fail(3), great(2), divide(0)}, api.ErrRange},
		{[][]expr.Ins{great(3), divide(3), fail(2)}, api.ErrFail},
		// What an instruction meets comes ahead of what is left in the end.
		{[][]expr.Ins{code(num(300), num(0), op(expr.Need)), code(num(0)), code(num(0))}, api.ErrFail},
		{[][]expr.Ins{code(num(300), num(0), op(expr.Quo)), code(num(0)), code(num(0))}, api.ErrArg},
		{[][]expr.Ins{append(slices.Repeat(code(num(1<<62), num(1<<62), op(expr.Mul)), 3), op(expr.Mul), op(expr.Mul), num(0), op(expr.Need)), code(num(0)), code(num(0))}, api.ErrRange},
		{[][]expr.Ins{code(num(-129)), code(num(1), num(0), op(expr.Need)), code(num(0))}, api.ErrRange},
		// Formulas are asked, all of them, ahead of all elements.
		{[][]expr.Ins{fail(0), divide(3), nil}, api.ErrForm},
		{[][]expr.Ins{fail(0), divide(3), code(elem(1, 1))}, api.ErrRange},
		{[][]expr.Ins{fail(0), divide(0), code(here(1))}, api.ErrRange},
		{[][]expr.Ins{fail(0), divide(3), make([]expr.Ins, 65)}, api.ErrFull},
		{[][]expr.Ins{fail(0), divide(3)}, api.ErrForm},
	} {
		m := move{old: old, now: comp(2, "b", of("x", api.I8, 3), of("y", api.I8, 3), of("z", api.I8, 3)), r: made(2, 1, x.list...), val: ints(1, 2, 3, 4)}
		if x.want == api.OK {
			if !isValue(m, ints(5, 5, 5, -1, -2, -5, 7, 7, 7)) {
				t.Error(i)
			}
		} else if !isNothing(m, x.want) {
			val, e := eval.Value(m.old, m.now, m.r, m.val)
			t.Error(i, val, e)
		}
	}
}

// TestNewBounds: each kind's bounds fit, what is beside them doesn't, at each
// element.
func TestNewBounds(t *testing.T) {
	top := new(big.Int).Sub(new(big.Int).Lsh(big.NewInt(1), 127), big.NewInt(1))
	for k := api.Bool; k < api.Ref; k++ {
		from, to := bounds(k)
		one := big.NewInt(1)
		for _, x := range []struct {
			b    *big.Int
			fits bool
		}{
			{from, true}, {to, true}, {big.NewInt(0), true}, {one, true},
			{new(big.Int).Sub(from, one), false}, {new(big.Int).Add(to, one), false}, {top, false}, {new(big.Int).Neg(top), false},
			{new(big.Int).Lsh(one, 64), false}, {new(big.Int).Neg(new(big.Int).Lsh(one, 64)), false},
		} {
			for at := range 4 {
				// The number at one place, and 0 at the others.
				c := code(op(expr.Place), num(at), op(expr.Same), numOf(ofBig(x.b)), num(0), op(expr.Pick))
				m := move{old: comp(1, "a"), now: comp(2, "b", of("x", api.I8, 1), of("y", k, 4)), r: made(2, 1, code(num(3)), c)}
				want := ints(3, 0, 0, 0, 0)
				want[1+at] = ofBig(x.b)
				if x.fits && !isValue(m, want) || !x.fits && !isNothing(m, api.ErrRange) {
					t.Error(k, x.b, at)
				}
			}
		}
	}
}

// TestFromKindToKind: an element that is handed on is the same, if it fits.
func TestFromKindToKind(t *testing.T) {
	for was := api.Bool; was <= api.Ref; was++ {
		for now := api.Bool; now <= api.Ref; now++ {
			from, to := bounds(was)
			low, high := bounds(now)
			one := big.NewInt(1)
			for _, b := range []*big.Int{from, to, low, high, big.NewInt(0), one, big.NewInt(-1), new(big.Int).Sub(low, one), new(big.Int).Add(high, one)} {
				if !fits(was, b) {
					continue
				}
				for _, c := range [][]expr.Ins{code(here(1)), code(elem(1, 1))} {
					m := move{old: comp(1, "a", of("p", api.U8, 1), of("x", was, 2)), now: comp(2, "b", of("x", now, 2)), r: made(2, 1, c)}
					m.val = []api.Int{wide.Of(9), ofBig(b), ofBig(b)}
					switch {
					case (was == api.Ref) != (now == api.Ref):
						if !isNothing(m, api.ErrType) {
							t.Error(was, now, b)
						}
					case fits(now, b):
						if !isValue(m, []api.Int{ofBig(b), ofBig(b)}) {
							t.Error(was, now, b)
						}
					case !isNothing(m, api.ErrRange):
						t.Error(was, now, b)
					}
				}
			}
		}
	}
}

func TestGreatestValue(t *testing.T) {
	old, now, r := comp(1, "a"), comp(2, "b"), made(2, 1)
	val, want := []api.Int{}, []api.Int{}
	for i := range 8 {
		old.Fields = append(old.Fields, of("f", api.I32, 8))
		now.Fields = append(now.Fields, of("g", api.U32, 8))
		r.Exprs = append(r.Exprs, long(7-i))
		for at := range 8 {
			val = append(val, wide.Of(100*i+at-63))
			want = append(want, wide.Of(100*(7-i)+at))
		}
	}
	m := move{old: old, now: now, r: r, val: val}
	if !isValue(m, want) {
		t.Error("64 elements")
	}
	r.Exprs[7] = append(slices.Clone(r.Exprs[7]), op(expr.Neg))
	if !isNothing(m, api.ErrFull) {
		t.Error("65 instructions")
	}
	// The very last element.
	r.Exprs[7] = code(elem(0, 7), op(expr.Place), num(7), op(expr.Less), op(expr.Need))
	val[7] = wide.Of(1)
	if !isNothing(m, api.ErrFail) {
		t.Error("the last element")
	}
	r.Exprs[7][2] = num(8)
	copy(want[56:], slices.Repeat(ints(1), 8))
	want[7] = wide.Of(707)
	if m.val = val; !isValue(m, want) {
		t.Error("the last field")
	}
}

// TestRulesOfOtherIds: Ids and names play no part, but that a fresh rule makes
// nothing.
func TestRulesOfOtherIds(t *testing.T) {
	for _, id := range []int{minInt, -1, 0, 1, 4, 9, 24, 25, maxInt} {
		for _, was := range []int{minInt, -1, 0, 1, 4, 9, 24, 25, maxInt} {
			m := good()
			want := ints(32750, -5, 7, 100, 77, 1<<40, 1, 12, 1)
			m.r.New, m.r.Old, m.old.Id, m.now.Id, m.old.Name, m.now.Name = id, was, was, id, "", "?"
			if was == 0 {
				if !isNothing(m, api.ErrState) {
					t.Error(id)
				}
				m.r.Exprs = nil
				if !isNothing(m, api.ErrState) {
					t.Error(id)
				}
				m.now.Fields = nil
				if !isNothing(m, api.ErrState) {
					t.Error(id)
				}
			} else if !isValue(m, want) {
				t.Error(id, was)
			}
		}
	}
}

// fault is one way to go wrong.
type fault struct {
	turn func(m *move)
	want api.Errno
}

// faults are all kinds of them, those that are told first ahead; those in one
// group are told alike. Those of values stand in the second and third one.
func faults() [][]fault {
	tooLong := []api.Field{of("l", api.U64, 8), of("m", api.U64, 8), of("n", api.U64, 8), of("o", api.U64, 8)}
	wrongFields := func(of func(m *move) *api.Comp) []fault {
		return []fault{
			{func(m *move) { of(m).Fields[0].Count = 9 }, api.ErrArg},
			{func(m *move) { of(m).Fields[1].Count = 0 }, api.ErrArg},
			{func(m *move) { of(m).Fields[1].Kind = 11 }, api.ErrArg},
			{func(m *move) { of(m).Fields[2].Kind = 0 }, api.ErrArg},
			{func(m *move) { of(m).Fields = slices.Concat(of(m).Fields, tooLong, tooLong) }, api.ErrArg},
			{func(m *move) { of(m).Fields = append(of(m).Fields[:2], tooLong...) }, api.ErrFull},
		}
	}
	return [][]fault{
		wrongFields(func(m *move) *api.Comp { return &m.old }),
		{
			{func(m *move) { m.val, m.row = m.val[:len(m.val)-1], m.row[:len(m.row)-1] }, api.ErrForm},
			{func(m *move) { m.val, m.row = append(m.val, wide.Of(0)), m.row+"\x00" }, api.ErrForm},
			{func(m *move) { m.val, m.row = append(m.val, m.val...), m.row+m.row }, api.ErrForm},
			{func(m *move) { m.val, m.row = nil, "" }, api.ErrForm},
		},
		{
			{func(m *move) { m.val[0] = wide.Of(256) }, api.ErrRange},
			{func(m *move) { m.val[0] = wide.Of(-1) }, api.ErrRange},
			{func(m *move) { m.val[7] = wide.Of(2) }, api.ErrRange},
			{func(m *move) { m.val[5] = api.Int{Hi: 1} }, api.ErrRange},
			{func(m *move) { m.val[2] = api.Int{Neg: true} }, api.ErrRange},
			{func(m *move) { m.val[3] = api.Int{Hi: 1 << 63} }, api.ErrRange},
		},
		wrongFields(func(m *move) *api.Comp { return &m.now }),
		{
			{func(m *move) { m.r.Old = 0 }, api.ErrState},
			{func(m *move) { m.r = fresh(9) }, api.ErrState},
			{func(m *move) { m.r = rule.Rule{} }, api.ErrState},
		},
		{
			{func(m *move) { m.r.Exprs = m.r.Exprs[:4] }, api.ErrForm},
			{func(m *move) { m.r.Exprs = append(m.r.Exprs, code(num(0))) }, api.ErrForm},
			{func(m *move) { m.r.Exprs = nil }, api.ErrForm},
		},
		{
			{func(m *move) { m.r.Exprs[0] = nil }, api.ErrForm},
			{func(m *move) { m.r.Exprs[0] = code(here(8)) }, api.ErrForm},
			{func(m *move) { m.r.Exprs[0] = make([]expr.Ins, 65) }, api.ErrFull},
			{func(m *move) { m.r.Exprs[0] = code(elem(0, 1)) }, api.ErrRange},
			{func(m *move) { m.r.Exprs[0] = code(elem(2, 0)) }, api.ErrType},
		},
		{{func(m *move) { m.r.Exprs[1] = code(here(0)) }, api.ErrRange}},
		{
			{func(m *move) { m.r.Exprs[2] = code(here(3)) }, api.ErrType},
			{func(m *move) { m.r.Exprs[2] = code(num(1)) }, api.ErrType},
			{func(m *move) { m.r.Exprs[2] = code(here(2), op(expr.Neg)) }, api.ErrType},
		},
		{{func(m *move) { m.r.Exprs[4] = code(elem(4, 0)) }, api.ErrRange}},
		{
			{func(m *move) { m.r.Exprs[0] = code(num(1), num(0), op(expr.Need)) }, api.ErrFail},
			{func(m *move) { m.r.Exprs[0] = code(num(1), num(0), op(expr.Rem)) }, api.ErrArg},
			{func(m *move) { m.r.Exprs[0] = code(num(32768)) }, api.ErrRange},
		},
		{{func(m *move) { m.r.Exprs[1] = code(num(9), op(expr.Place), num(2), op(expr.Sub), op(expr.Need)) }, api.ErrFail}},
		{{func(m *move) { m.r.Exprs[3] = code(num(9), op(expr.Place), op(expr.Quo)) }, api.ErrArg}},
		{{func(m *move) { m.r.Exprs[4] = code(num(2)) }, api.ErrRange}},
	}
}

func TestFaults(t *testing.T) {
	for i, group := range faults() {
		for k, x := range group {
			m := good()
			x.turn(&m)
			if val, e := readValue(m.old, m.now, m.r, m.val); e != x.want || len(val) > 0 {
				t.Error(i, k, val, e)
			}
			if !isNoValue(m, x.want) || i != 2 && !isNoRow(m, x.want) {
				val, e := eval.Value(m.old, m.now, m.r, m.val)
				t.Error(i, k, val, e)
			}
		}
	}
}

// TestTwoFaults: the one that the sentence names first is told.
func TestTwoFaults(t *testing.T) {
	all, seen := faults(), 0
	for i, group := range all {
		for _, x := range group {
			for _, y := range slices.Concat(all[i+1:]...) {
				m := good()
				y.turn(&m)
				x.turn(&m)
				if !isNoValue(m, x.want) || i != 2 && !isNoRow(m, x.want) {
					t.Error(i, x.want, m)
				}
				seen++
			}
		}
	}
	if seen < 700 {
		t.Error(seen)
	}
}

func TestManyValues(t *testing.T) {
	dice := rand.New(rand.NewPCG(1, 14))
	seen := map[api.Errno]int{}
	for range 100000 {
		m := move{old: comp(1, "a", someFields(dice)...), now: comp(2, "b", someFields(dice)...)}
		m.r = someRule(dice, 2, m.old, m.now)
		m.val = someValue(dice, m.old.Fields)
		want, e := readValue(m.old, m.now, m.r, m.val)
		seen[e]++
		if e == api.OK && !isValue(m, want) || e != api.OK && !isNothing(m, e) {
			t.Fatal(m, want, e)
		}
	}
	for _, e := range []api.Errno{api.OK, api.ErrArg, api.ErrFail, api.ErrForm, api.ErrFull, api.ErrRange, api.ErrState, api.ErrType} {
		if seen[e] < 100 {
			t.Error(e, seen)
		}
	}
}

// P14.2

func TestRowsByHand(t *testing.T) {
	for i, x := range []struct {
		old, now []api.Field
		list     [][]expr.Ins
		row      string
		want     string
		e        api.Errno
	}{
		{nil, nil, nil, "", "", api.OK},
		{nil, nil, nil, "\x00", "", api.ErrForm},
		{nil, []api.Field{of("x", api.I16, 2)}, [][]expr.Ins{code(num(-2))}, "", "\xfe\xff\xfe\xff", api.OK},
		{[]api.Field{of("x", api.I16, 1)}, nil, nil, "\xfe\xff", "", api.OK},
		{[]api.Field{of("x", api.I16, 1)}, nil, nil, "\xfe\xff\x00", "", api.ErrForm},
		{[]api.Field{of("x", api.I8, 1)}, []api.Field{of("x", api.I32, 1)}, [][]expr.Ins{code(here(0))}, "\xfe", "\xfe\xff\xff\xff", api.OK},
		{[]api.Field{of("x", api.I32, 1)}, []api.Field{of("x", api.I8, 1)}, [][]expr.Ins{code(here(0))}, "\x80\xff\xff\xff", "\x80", api.OK},
		{[]api.Field{of("x", api.I32, 1)}, []api.Field{of("x", api.I8, 1)}, [][]expr.Ins{code(here(0))}, "\x80\x00\x00\x00", "", api.ErrRange},
		{[]api.Field{of("x", api.I32, 1)}, []api.Field{of("x", api.U8, 1)}, [][]expr.Ins{code(here(0))}, "\x80\x00\x00\x00", "\x80", api.OK},
		// The document's second example of the whole, and its third one.
		{[]api.Field{of("x", api.U8, 1)}, []api.Field{of("x", api.I16, 1)}, [][]expr.Ins{code(here(0))}, "\xff", "\xff\x00", api.OK},
		{[]api.Field{of("x", api.I16, 1)}, []api.Field{of("x", api.U8, 1)}, [][]expr.Ins{code(here(0))}, "\x2c\x01", "", api.ErrRange},
		// Gaps, of both rows.
		{[]api.Field{of("a", api.U8, 1), of("b", api.U32, 1)}, []api.Field{of("b", api.U16, 1), of("a", api.U64, 1), of("c", api.Bool, 1)},
			[][]expr.Ins{code(here(1)), code(here(0)), code(num(1))}, "\x07\x00\x00\x00\x09\x01\x00\x00",
			"\x09\x01\x00\x00\x00\x00\x00\x00\x07\x00\x00\x00\x00\x00\x00\x00\x01\x00\x00\x00\x00\x00\x00\x00", api.OK},
		{[]api.Field{of("a", api.U8, 1), of("b", api.U32, 1)}, []api.Field{of("b", api.U16, 1)}, [][]expr.Ins{code(here(1))},
			"\x07\x00\x01\x00\x09\x01\x00\x00", "", api.ErrForm},
		{[]api.Field{of("k", api.Bool, 2)}, []api.Field{of("k", api.U8, 2)}, [][]expr.Ins{code(here(0))}, "\x01\x00", "\x01\x00", api.OK},
		{[]api.Field{of("k", api.Bool, 2)}, []api.Field{of("k", api.U8, 2)}, [][]expr.Ins{code(here(0))}, "\x01\x02", "", api.ErrForm},
		{[]api.Field{of("r", api.Ref, 1)}, []api.Field{of("x", api.U8, 1), of("r", api.Ref, 1)}, [][]expr.Ins{code(num(5)), code(here(0))},
			"\xff\xfe\xfd\xfc\xfb\xfa\xf9\xf8", "\x05\x00\x00\x00\x00\x00\x00\x00\xff\xfe\xfd\xfc\xfb\xfa\xf9\xf8", api.OK},
	} {
		row, e := eval.Row(comp(1, "a", x.old...), comp(2, "b", x.now...), made(2, 1, x.list...), x.row)
		if row != x.want || e != x.e {
			t.Errorf("%d %q %d", i, row, e)
		}
	}
}

// TestWrongRows: what is no value's row is told ahead of all that is wrong with
// the new fields, and the rule.
func TestWrongRows(t *testing.T) {
	wrong := []string{"", "\x00", strings.Repeat("\x00", 48), strings.Repeat("\x00", 1<<16)}
	gap, boolean := []byte(good().row), []byte(good().row)
	gap[3], boolean[48] = 1, 2
	wrong = append(wrong, string(gap), string(boolean), good().row+"\x00", good().row[1:])
	for i, row := range wrong {
		for _, group := range append(faults()[3:], []fault{{func(*move) {}, api.OK}}) {
			for _, x := range group {
				m := good()
				x.turn(&m)
				m.row = row
				if !isNoRow(m, api.ErrForm) {
					t.Error(i, x.want)
				}
			}
		}
		for _, x := range faults()[0] {
			m := good()
			x.turn(&m)
			m.row = row
			if !isNoRow(m, x.want) {
				t.Error(i, x.want)
			}
		}
	}
}

func TestManyRows(t *testing.T) {
	dice := rand.New(rand.NewPCG(2, 14))
	seen := map[api.Errno]int{}
	for range 100000 {
		m := move{old: comp(1, "a", someFields(dice)...), now: comp(2, "b", someFields(dice)...)}
		m.r = someRule(dice, 2, m.old, m.now)
		row := []byte(packed(m.old.Fields, someValue(dice, m.old.Fields)))
		// A byte is turned: it makes another value, or none.
		if len(row) > 0 && dice.IntN(2) == 0 {
			row[dice.IntN(len(row))] ^= 1 << dice.IntN(8)
		}
		m.row = string(row)
		want, e := readRow(m.old, m.now, m.r, m.row)
		seen[e]++
		if got, f := eval.Row(m.old, m.now, m.r, m.row); f != e || got != want {
			t.Fatal(m, got, want, f, e)
		}
	}
	for _, e := range []api.Errno{api.OK, api.ErrForm, api.ErrRange, api.ErrArg, api.ErrFail} {
		if seen[e] < 500 {
			t.Error(e, seen)
		}
	}
}

// P14.4

// TestRowsAndValues: packed first and migrated then, or the other way around.
func TestRowsAndValues(t *testing.T) {
	dice := rand.New(rand.NewPCG(3, 14))
	passed := 0
	for range 50000 {
		m := move{old: comp(1, "a", someFields(dice)...), now: comp(2, "b", someFields(dice)...)}
		m.r = someRule(dice, 2, m.old, m.now)
		m.val = someValue(dice, m.old.Fields)
		before, _ := layout.Pack(m.old.Fields, m.val)
		row, e := eval.Row(m.old, m.now, m.r, before)
		val, f := eval.Value(m.old, m.now, m.r, m.val)
		if e != f {
			t.Fatal(m, e, f)
		}
		if e != api.OK {
			continue
		}
		passed++
		if after, g := layout.Pack(m.now.Fields, val); g != api.OK || after != row {
			t.Fatal(m, val, row, g)
		}
		if back, g := layout.Unpack(m.now.Fields, row); g != api.OK || !slices.Equal(back, val) {
			t.Fatal(m, back, val, g)
		}
	}
	if passed < 10000 {
		t.Error(passed)
	}
}

// Rules 3 and 4 of DOC.md

func TestValuesStay(t *testing.T) {
	for _, group := range append(faults(), []fault{{func(*move) {}, api.OK}}) {
		for _, x := range group {
			m, was := good(), good()
			x.turn(&m)
			x.turn(&was)
			// Room behind the lists is 0, and must stay so.
			m.old.Fields, m.now.Fields, m.val, m.r.Exprs = roomy(m.old.Fields), roomy(m.now.Fields), roomy(m.val), roomy(m.r.Exprs)
			for i, c := range m.r.Exprs {
				m.r.Exprs[i] = roomy(c)
			}
			first, e := eval.Value(m.old, m.now, m.r, m.val)
			eval.Row(m.old, m.now, m.r, m.row)
			kept := slices.Clone(first)
			for i := range first {
				first[i] = api.Int{Hi: 77}
			}
			second, f := eval.Value(m.old, m.now, m.r, m.val)
			if e != f || !slices.Equal(kept, second) {
				t.Error(e, f, kept, second)
			}
			if !isRoomy(m.old.Fields) || !isRoomy(m.now.Fields) || !isRoomy(m.val) || !isRoomy(m.r.Exprs) {
				t.Error(m)
			}
			for _, c := range m.r.Exprs {
				if !isRoomy(c) {
					t.Error(c)
				}
			}
			if !sameMove(m, was) {
				t.Error(m, was)
			}
		}
	}
}

// sameMove: a list that holds nothing may be nil or empty.
func sameMove(a, b move) bool {
	return slices.Equal(a.old.Fields, b.old.Fields) && slices.Equal(a.now.Fields, b.now.Fields) && slices.Equal(a.val, b.val) &&
		slices.EqualFunc(a.r.Exprs, b.r.Exprs, slices.Equal[[]expr.Ins]) && a.r.New == b.r.New && a.r.Old == b.r.Old
}

// roomy is the same list with room behind it, that is 0.
func roomy[T any](list []T) []T {
	return append(slices.Clone(list), make([]T, 3)...)[:len(list)]
}

// isRoomy: whether that room is still 0.
func isRoomy[T any](list []T) bool {
	return reflect.DeepEqual(list[len(list):len(list)+3], make([]T, 3))
}

// FuzzRow asks rules out of bytes, of components out of a number.
func FuzzRow(f *testing.F) {
	for n := range uint64(9) {
		dice := rand.New(rand.NewPCG(n, 14))
		old, now := comp(1, "a", someFields(dice)...), comp(2, "b", someFields(dice)...)
		bytes, _ := rule.Encode(prog(1, 2, someRule(dice, 2, old, now)))
		f.Add(n, bytes, packed(old.Fields, someValue(dice, old.Fields)))
	}
	f.Fuzz(func(t *testing.T, n uint64, bytes, row string) {
		dice := rand.New(rand.NewPCG(n, 14))
		old, now := comp(1, "a", someFields(dice)...), comp(2, "b", someFields(dice)...)
		p, _ := rule.Decode(bytes)
		for _, r := range append(p.Rules, someRule(dice, 2, old, now)) {
			want, e := readRow(old, now, r, row)
			if got, f := eval.Row(old, now, r, row); f != e || got != want {
				t.Error(old, now, r, row, got, f, e)
			}
			val := someValue(dice, old.Fields)
			list, e := readValue(old, now, r, val)
			if got, f := eval.Value(old, now, r, val); f != e || !slices.Equal(got, list) {
				t.Error(old, now, r, val, got, f, e)
			}
		}
	})
}
