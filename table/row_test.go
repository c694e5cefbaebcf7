package table_test

import (
	"math/big"
	"math/rand/v2"
	"slices"
	"testing"

	"retrofit/api"
	"retrofit/table"
	"retrofit/wide"
)

// P16.3

func TestRowByHand(t *testing.T) {
	tab := table.New(five(), setOf(24, 4, 1), 2)
	tab.Add(1<<32+3, []api.Part{part(24, 258, 65535), part(4), part(1, 255, -2, 1<<31-1, 1)})
	for _, x := range []struct {
		id    int
		val   []api.Int
		bytes string
	}{
		{1, []api.Int{wide.Of(255), wide.Of(-2), wide.Of(1<<31 - 1), wide.Of(1)}, "\xff\x00\x00\x00\xfe\xff\xff\xff\xff\xff\xff\x7f\x01\x00\x00\x00"},
		{4, nil, ""},
		{24, []api.Int{wide.Of(258), wide.Of(65535)}, "\x02\x01\x00\x00\x00\x00\x00\x00\xff\xff\x00\x00\x00\x00\x00\x00"},
	} {
		if val, e := tab.Get(0, x.id); e != api.OK || !slices.Equal(val, x.val) {
			t.Error(x.id, val, e)
		}
		if bytes, e := tab.Bytes(0, x.id); e != api.OK || bytes != x.bytes {
			t.Errorf("%d %q %d", x.id, bytes, e)
		}
	}
	if tab.Ent(0) != 1<<32+3 || tab.Ent(1) != 0 || tab.Ent(-1) != 0 {
		t.Error(tab.Ent(0), tab.Ent(1), tab.Ent(-1))
	}
	parts, e := tab.Parts(0)
	if e != api.OK || len(parts) != 3 || parts[0].Comp != 1 || parts[1].Comp != 4 || parts[2].Comp != 24 {
		t.Error(parts, e)
	}
}

// All sets of a schema's components.
func TestRowsOfAllSets(t *testing.T) {
	dice := rand.New(rand.NewPCG(16, 7))
	for n := range 32 {
		ids := []int{}
		for i, id := range []int{1, 4, 7, 9, 24} {
			if n>>i&1 == 1 {
				ids = append(ids, id)
			}
		}
		w := newTwin(t, five(), 20, ids...).filled(t, dice, 18)
		agreeBeyond(t, w.tab, w.x)
		for _, id := range ids {
			for _, row := range []int{0, 15, 16, 17} {
				if e := w.set(t, row, api.Part{Comp: id, Val: someValue(dice, w.x.fields[id])}); e != api.OK {
					t.Fatal(id, row, e)
				}
			}
		}
		agreeBeyond(t, w.tab, w.x)
	}
}

func TestSetByHand(t *testing.T) {
	w := newTwin(t, five(), 4, 1, 4, 7)
	w.filled(t, rand.New(rand.NewPCG(16, 8)), 3)
	for i, x := range []struct {
		row  int
		p    api.Part
		want api.Errno
	}{
		{0, part(7, -128), api.OK},
		{2, part(7, 127), api.OK},
		{1, part(4), api.OK},
		{1, api.Part{Comp: 4, Val: []api.Int{}}, api.OK},
		{1, part(1, 0, 0, 0, 0), api.OK},
		{1, part(1, 255, 1<<31-1, -1<<31, 1), api.OK},
		// That there is no such row is told first, ...
		{3, part(7, 1), api.ErrRange},
		{-1, part(7, 1), api.ErrRange},
		{3, part(24, 1), api.ErrRange},
		{3, part(7, 1000), api.ErrRange},
		{3, part(7), api.ErrRange},
		{3, part(0), api.ErrRange},
		// ... then that the set hasn't the component, whether the schema has it or not, ...
		{0, part(24, 1, 1), api.ErrNone},
		{0, part(24, -1), api.ErrNone},
		{0, part(9), api.ErrNone},
		{0, part(2), api.ErrNone},
		{0, part(0), api.ErrNone},
		{0, part(-7, 1), api.ErrNone},
		{0, part(32+7, 1), api.ErrNone},
		{0, part(1<<32+7, 1), api.ErrNone},
		// ... then the value's length, and its numbers.
		{0, part(7), api.ErrForm},
		{0, part(7, 1, 2), api.ErrForm},
		{0, part(7, 1000, 2), api.ErrForm},
		{0, part(4, 0), api.ErrForm},
		{0, part(1, 1, 2, 3), api.ErrForm},
		{0, part(1, 256, 2, 3), api.ErrForm},
		{0, part(1, 1, 2, 3, 1, 5), api.ErrForm},
		{0, api.Part{Comp: 7, Val: make([]api.Int, 1<<16)}, api.ErrForm},
		{0, part(7, 128), api.ErrRange},
		{0, part(7, -129), api.ErrRange},
		{0, part(1, 256, 0, 0, 0), api.ErrRange},
		{0, part(1, 0, 0, 1<<31, 0), api.ErrRange},
		{0, part(1, 0, 0, 0, 2), api.ErrRange},
		{0, api.Part{Comp: 7, Val: []api.Int{{Neg: true}}}, api.ErrRange},
		{0, api.Part{Comp: 7, Val: []api.Int{{Hi: 1 << 63}}}, api.ErrRange},
		{0, api.Part{Comp: 7, Val: []api.Int{{Neg: true, Hi: maxWord, Lo: maxWord}}}, api.ErrRange},
	} {
		if e := w.set(t, x.row, x.p); e != x.want {
			t.Error(i, e)
		}
		agree(t, w.tab, w.x)
	}
}

func TestSetOfOneRowAlone(t *testing.T) {
	dice := rand.New(rand.NewPCG(16, 9))
	w := newTwin(t, five(), 40, 1, 7, 9, 24).filled(t, dice, 35)
	for range 300 {
		id := w.x.ids[dice.IntN(4)]
		p := api.Part{Comp: id, Val: someValue(dice, w.x.fields[id])}
		if dice.IntN(3) == 0 {
			p.Val = spoil(dice, w.x.fields[id], p.Val)
		}
		w.set(t, dice.IntN(35), p)
		agree(t, w.tab, w.x)
	}
}

func TestSetKeepsNoValue(t *testing.T) {
	w := newTwin(t, five(), 3, 1)
	w.filled(t, rand.New(rand.NewPCG(16, 10)), 2)
	room := []api.Int{{Lo: 1}, {Lo: 2}, {Lo: 3}, {Lo: 1}, {Lo: 9}}
	was := slices.Clone(room)
	w.set(t, 1, api.Part{Comp: 1, Val: room[:4]})
	if !slices.Equal(room, was) {
		t.Fatal("changed", room)
	}
	clear(room)
	agree(t, w.tab, w.x)
}

// Rule 3: what is answered is new memory, no two lists of it share any.
func TestAnswersAreNew(t *testing.T) {
	w := newTwin(t, five(), 6, 1, 4, 7, 9, 24)
	w.filled(t, rand.New(rand.NewPCG(16, 11)), 3)
	spoilAll := func(val []api.Int) {
		val = val[:cap(val)]
		for i := range val {
			val[i] = api.Int{Neg: true, Hi: maxWord}
		}
	}
	for row := range 3 {
		for _, id := range w.x.ids {
			val, _ := w.tab.Get(row, id)
			spoilAll(val)
		}
		parts, _ := w.tab.Parts(row)
		for i, p := range parts {
			spoilAll(p.Val)
			for _, q := range parts[i+1:] {
				if !slices.Equal(q.Val, w.x.lines[row].val[q.Comp]) {
					t.Fatal("shared", row, p.Comp, q.Comp)
				}
			}
		}
		clear(parts[:cap(parts)])
	}
	ents := w.tab.Ents()
	clear(ents[:cap(ents)])
	agree(t, w.tab, w.x)

	ents = w.tab.Ents()
	parts, _ := w.tab.Parts(0)
	was := slices.Clone(parts[0].Val)
	w.set(t, 0, part(1, 9, 9, 9, 0))
	w.drop(t, 0)
	if len(ents) != 3 || ents[0] != 1000 || !slices.Equal(parts[0].Val, was) {
		t.Error(ents, parts)
	}
}

func TestNil(t *testing.T) {
	var tab *table.Table
	for _, row := range append(noRows(0), 0) {
		for _, id := range append(notIn(nil), 1) {
			isWrong(t, tab, row, id, api.ErrNil)
		}
		if who, e := tab.Drop(row); who != 0 || e != api.ErrNil {
			t.Error(row, who, e)
		}
		if parts, e := tab.Parts(row); len(parts) != 0 || e != api.ErrNil {
			t.Error(row, parts, e)
		}
		if tab.Ent(row) != 0 {
			t.Error(row)
		}
	}
	for _, e := range []api.Ent{0, 1, maxWord} {
		for _, parts := range [][]api.Part{nil, {part(1)}, {part(1), part(1)}} {
			if row, err := tab.Add(e, parts); row != 0 || err != api.ErrNil {
				t.Error(e, parts, row, err)
			}
		}
	}
	if tab.Keep() != api.ErrNil || tab.Yield() != api.ErrNil {
		t.Error("Keep, Yield")
	}
	if tab.Sig() != 0 || tab.Len() != 0 || tab.Kept() != 0 || tab.Room() != 0 || len(tab.Ents()) != 0 || tab.Clone() != nil {
		t.Error("nil")
	}
}

func TestCloneSharesNothing(t *testing.T) {
	for seed := range uint64(60) {
		dice := rand.New(rand.NewPCG(16, 100+seed))
		p := newTwin(t, five(), 20, 1, 4, 7, 24).filled(t, dice, dice.IntN(20))
		for range dice.IntN(4) {
			p.keep(t)
		}
		q := p.clone()
		if p.tab == q.tab {
			t.Fatal("itself")
		}
		agreeBeyond(t, q.tab, q.x)
		for range 60 {
			one := p
			if dice.IntN(2) == 0 {
				one = q
			}
			step(t, dice, one)
			agree(t, p.tab, p.x)
			agree(t, q.tab, q.x)
		}
		r := q.clone()
		agreeBeyond(t, p.tab, p.x)
		agreeBeyond(t, r.tab, q.x)
	}
}

// Both grow into the room that a slice has left.
func TestClonesGrowApart(t *testing.T) {
	dice := rand.New(rand.NewPCG(16, 12))
	for _, n := range []int{0, 3, 5, 15, 16, 17} {
		p := newTwin(t, five(), 40, 1, 4, 24).filled(t, dice, n)
		q := p.clone()
		for i := range 40 - n {
			p.add(t, api.Ent(5000+i), someParts(dice, p.x))
			q.add(t, api.Ent(9000+i), someParts(dice, q.x))
		}
		agree(t, p.tab, p.x)
		agree(t, q.tab, q.x)
	}
}

// P16.4

// step does some one thing, a wrong one now and then.
func step(t testing.TB, dice *rand.Rand, w twin) api.Errno {
	t.Helper()
	n := len(w.x.lines)
	row := dice.IntN(n+2) - dice.IntN(2)
	switch dice.IntN(10) {
	case 0:
		return w.keep(t)
	case 1:
		return w.yield(t)
	case 2, 3:
		return w.drop(t, row)
	case 4, 5, 6:
		id := append(notIn(nil), w.x.ids...)[dice.IntN(16+24+len(w.x.ids))]
		if len(w.x.ids) > 0 && dice.IntN(4) > 0 {
			id = w.x.ids[dice.IntN(len(w.x.ids))]
		}
		p := api.Part{Comp: id, Val: someValue(dice, w.x.fields[id])}
		if dice.IntN(5) == 0 {
			p.Val = spoil(dice, w.x.fields[id], p.Val)
		}
		return w.set(t, row, p)
	}
	e, parts := api.Ent(dice.IntN(20)), someParts(dice, w.x)
	if i := dice.IntN(len(parts) + 3); i < len(parts) && dice.IntN(2) == 0 {
		switch dice.IntN(3) {
		case 0:
			parts = slices.Delete(parts, i, i+1)
		case 1:
			parts = append(parts, parts[i])
		default:
			parts[i].Val = spoil(dice, w.x.fields[parts[i].Comp], parts[i].Val)
		}
	}
	return w.add(t, e, parts)
}

func TestManySteps(t *testing.T) {
	seen := map[api.Errno]int{}
	for seed := range uint64(200) {
		dice := rand.New(rand.NewPCG(16, 1000+seed))
		ids := []int{}
		for _, id := range []int{1, 4, 7, 9, 24} {
			if dice.IntN(2) == 0 {
				ids = append(ids, id)
			}
		}
		w := newTwin(t, five(), 1+dice.IntN(36), ids...)
		for range 120 {
			seen[step(t, dice, w)]++
			agree(t, w.tab, w.x)
		}
		agreeBeyond(t, w.tab, w.x)
	}
	for _, e := range []api.Errno{api.OK, api.ErrArg, api.ErrRange, api.ErrForm, api.ErrFull, api.ErrNone} {
		if seen[e] < 100 {
			t.Error("too few", e, seen)
		}
	}
}

// Each element of each kind at its bounds, a bit beside, and in between.
func TestNumbersOfAllKinds(t *testing.T) {
	for k := api.Bool; k <= api.Ref; k++ {
		s := api.Schema{Version: 1, Comps: []api.Comp{comp(2, "a", of("b", api.U8, 1), of("x", k, 3), of("e", api.U8, 1)), comp(3, "b", of("x", k, 8))}}
		w := newTwin(t, s, 2, 2, 3)
		if e := w.add(t, 9, []api.Part{part(3, 0, 0, 0, 0, 0, 0, 0, 0), part(2, 0, 0, 0, 0, 0)}); e != api.OK {
			t.Fatal(k, e)
		}
		from, to := bounds(k)
		list := []api.Int{{}, {Neg: true}, {Neg: true, Lo: 1}, {Hi: 1}, {Neg: true, Hi: 1}, {Hi: 1 << 63, Lo: 1}, {Lo: maxWord}, {Neg: true, Lo: 1 << 63}}
		for _, n := range []int64{-2, -1, 0, 1, 2} {
			list = append(list, ofBig(new(big.Int).Add(from, big.NewInt(n))), ofBig(new(big.Int).Add(to, big.NewInt(n))))
		}
		for bit := range 64 {
			list = append(list, api.Int{Lo: 1 << bit}, api.Int{Neg: true, Lo: 1 << bit})
		}
		for _, x := range list {
			for i := range 8 {
				val := slices.Repeat([]api.Int{wide.Of(1)}, 8)
				val[i] = x
				if e := w.set(t, 0, api.Part{Comp: 3, Val: val}); (e == api.OK) != fits(k, x) {
					t.Fatal(k, x, e)
				}
				if i < 5 {
					w.set(t, 0, api.Part{Comp: 2, Val: val[:5]})
				}
				agree(t, w.tab, w.x)
			}
		}
	}
}

func FuzzSteps(f *testing.F) {
	f.Add(uint8(3), uint8(31), uint64(1), uint8(40))
	f.Add(uint8(0), uint8(0), uint64(2), uint8(255))
	f.Add(uint8(255), uint8(18), uint64(3), uint8(100))
	f.Fuzz(func(t *testing.T, most, some uint8, seed uint64, steps uint8) {
		ids := []int{}
		for i, id := range []int{1, 4, 7, 9, 24} {
			if some>>i&1 == 1 {
				ids = append(ids, id)
			}
		}
		dice := rand.New(rand.NewPCG(16, seed))
		w := newTwin(t, five(), 1+int(most), ids...)
		for range steps {
			if dice.IntN(20) == 0 {
				w = w.clone()
			}
			step(t, dice, w)
			agree(t, w.tab, w.x)
		}
		agreeBeyond(t, w.tab, w.x)
	})
}
