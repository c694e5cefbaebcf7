package world_test

import (
	"math/rand/v2"
	"slices"
	"testing"

	"retrofit/api"
	"retrofit/entity"
	"retrofit/schema"
	"retrofit/sig"
	"retrofit/wide"
	"retrofit/world"
)

// P18.1

// numbersOf are all places of caps, with what is the least and the most there.
func numbersOf(c *api.Caps) []struct {
	at          *int
	least, most int
} {
	return []struct {
		at          *int
		least, most int
	}{
		{&c.Ents, 1, 256}, {&c.Rows, 1, 256}, {&c.Archs, 1, 64}, {&c.Cmds, 0, 64}, {&c.Fuel, 0, 4096}, {&c.Gens, 1, 65535},
	}
}

func TestCheckCaps(t *testing.T) {
	beside := []int{minInt, -1 << 32, -1, 0, 1, 2, 63, 64, 65, 255, 256, 257, 4095, 4096, 4097, 65534, 65535, 65536, 1 << 32, 1<<32 + 1, maxInt}
	for i := range 6 {
		for _, n := range beside {
			for k := range 6 {
				for _, m := range beside {
					c := api.Caps{Ents: 3, Rows: 3, Archs: 3, Cmds: 3, Fuel: 3, Gens: 3}
					list := numbersOf(&c)
					*list[i].at, *list[k].at = n, m
					want := api.OK
					for _, x := range list {
						if *x.at < x.least || *x.at > x.most {
							want = api.ErrArg
						}
					}
					if e := world.CheckCaps(c); e != want {
						t.Fatal(c, e, want)
					}
					if w := world.New(five(), c); (w != nil) != (want == api.OK) {
						t.Fatal(c, w != nil)
					}
				}
			}
		}
	}
}

func TestCapsByHand(t *testing.T) {
	for _, x := range []struct {
		c    api.Caps
		want api.Errno
	}{
		{api.Caps{}, api.ErrArg},
		{api.Caps{Ents: 1, Rows: 1, Archs: 1, Cmds: 0, Fuel: 0, Gens: 1}, api.OK},
		{api.Caps{Ents: 256, Rows: 256, Archs: 64, Cmds: 64, Fuel: 4096, Gens: 65535}, api.OK},
		{api.Caps{Ents: 0, Rows: 1, Archs: 1, Gens: 1}, api.ErrArg},
		{api.Caps{Ents: 1, Rows: 0, Archs: 1, Gens: 1}, api.ErrArg},
		{api.Caps{Ents: 1, Rows: 1, Archs: 0, Gens: 1}, api.ErrArg},
		{api.Caps{Ents: 1, Rows: 1, Archs: 1, Cmds: -1, Gens: 1}, api.ErrArg},
		{api.Caps{Ents: 1, Rows: 1, Archs: 1, Fuel: -1, Gens: 1}, api.ErrArg},
		{api.Caps{Ents: 1, Rows: 1, Archs: 1, Gens: 0}, api.ErrArg},
		{api.Caps{Ents: 257, Rows: 1, Archs: 1, Gens: 1}, api.ErrArg},
		{api.Caps{Ents: 1, Rows: 257, Archs: 1, Gens: 1}, api.ErrArg},
		{api.Caps{Ents: 1, Rows: 1, Archs: 65, Gens: 1}, api.ErrArg},
		{api.Caps{Ents: 1, Rows: 1, Archs: 1, Cmds: 65, Gens: 1}, api.ErrArg},
		{api.Caps{Ents: 1, Rows: 1, Archs: 1, Fuel: 4097, Gens: 1}, api.ErrArg},
		{api.Caps{Ents: 1, Rows: 1, Archs: 1, Gens: 65536}, api.ErrArg},
	} {
		if e := world.CheckCaps(x.c); e != x.want {
			t.Error(x.c, e)
		}
	}
}

// wrongSchemas can't be, each for one fault.
func wrongSchemas() map[string]api.Schema {
	wrong := map[string]api.Schema{"nothing": {}}
	turned := func(name string, turn func(s *api.Schema)) {
		s := five()
		turn(&s)
		wrong[name] = s
	}
	turned("version 0", func(s *api.Schema) { s.Version = 0 })
	turned("version beyond", func(s *api.Schema) { s.Version = 1<<30 + 1 })
	turned("id 0", func(s *api.Schema) { s.Comps[0].Id = 0 })
	turned("id 25", func(s *api.Schema) { s.Comps[4].Id = 25 })
	turned("ids fall", func(s *api.Schema) { s.Comps[0], s.Comps[1] = s.Comps[1], s.Comps[0] })
	turned("no name", func(s *api.Schema) { s.Comps[4].Name = "" })
	turned("name twice", func(s *api.Schema) { s.Comps[4].Name = "pos" })
	turned("field name twice", func(s *api.Schema) { s.Comps[0].Fields[1].Name = "team" })
	turned("no kind", func(s *api.Schema) { s.Comps[0].Fields[1].Kind = 11 })
	turned("count 9", func(s *api.Schema) { s.Comps[0].Fields[1].Count = 9 })
	turned("row too long", func(s *api.Schema) {
		s.Comps[3].Fields = []api.Field{of("a", api.U64, 8), of("b", api.U64, 8), of("c", api.U64, 8), of("d", api.U64, 8), of("e", api.U8, 1)}
	})
	return wrong
}

func TestNewOfWrongSchemas(t *testing.T) {
	for name, s := range wrongSchemas() {
		if world.New(s, capsOf(3, 3, 3)) != nil {
			t.Error(name)
		}
	}
}

func TestNewIsWithoutAnybody(t *testing.T) {
	for _, s := range []api.Schema{five(), whole(), {Version: 1}, {Version: 1 << 30}} {
		for _, c := range []api.Caps{capsOf(1, 1, 1), {Ents: 256, Rows: 256, Archs: 64, Cmds: 64, Fuel: 4096, Gens: 65535}, {Ents: 2, Rows: 3, Archs: 4, Cmds: 5, Fuel: 6, Gens: 7}} {
			w := newTwin(t, s, c)
			if w.w.Schema().Version != s.Version || w.w.Caps() != c || len(w.w.Live())+len(w.w.Sigs())+len(w.w.Awaited()) != 0 {
				t.Error(w.w.Schema(), w.w.Caps(), w.w.Live(), w.w.Sigs(), w.w.Awaited())
			}
			agreeBeyond(t, w)
		}
	}
}

// The document's example.
func TestOneId(t *testing.T) {
	w := world.New(five(), capsOf(1, 9, 9))
	one, err := w.Spawn(nil)
	if one != entity.Of(1, 1) || err != api.OK {
		t.Error(one, err)
	}
	if e, err := w.Spawn(nil); e != 0 || err != api.ErrFull {
		t.Error(e, err)
	}
	if err := w.Despawn(one); err != api.OK {
		t.Error(err)
	}
	if two, err := w.Spawn(nil); two != entity.Of(1, 2) || err != api.OK {
		t.Error(two, err)
	}
}

func TestSpawnByHand(t *testing.T) {
	w := world.New(five(), capsOf(4, 2, 2))
	for i, x := range []struct {
		parts []api.Part
		want  api.Ent
		err   api.Errno
		sets  int
	}{
		{[]api.Part{part(7, 5), part(4)}, entity.Of(1, 1), api.OK, 1},
		{[]api.Part{part(4), part(7, -5)}, entity.Of(2, 1), api.OK, 1},
		// What is wrong with the parts is told ahead of that there is no room, ...
		{[]api.Part{part(4), part(7, 128)}, 0, api.ErrRange, 1},
		{[]api.Part{part(4), part(7, 1, 2)}, 0, api.ErrForm, 1},
		{[]api.Part{part(4), part(7, 1), part(4)}, 0, api.ErrArg, 1},
		{[]api.Part{part(4), part(7, 1), part(8)}, 0, api.ErrNone, 1},
		{[]api.Part{part(36)}, 0, api.ErrNone, 1},
		// ... part by part.
		{[]api.Part{part(0), part(7, 128)}, 0, api.ErrNone, 1},
		{[]api.Part{part(7, 128), part(0)}, 0, api.ErrRange, 1},
		{[]api.Part{part(4), part(7, 1)}, 0, api.ErrFull, 1},
		{nil, entity.Of(3, 1), api.OK, 2},
		{[]api.Part{part(9)}, 0, api.ErrFull, 2},
		{[]api.Part{}, entity.Of(4, 1), api.OK, 2},
		{nil, 0, api.ErrFull, 2},
		{[]api.Part{part(9, 1)}, 0, api.ErrForm, 2},
	} {
		if e, err := w.Spawn(x.parts); e != x.want || err != x.err || len(w.Sigs()) != x.sets {
			t.Error(i, e, err, w.Sigs())
		}
	}
	if !slices.Equal(w.Sigs(), []sig.Sig{setOf(4, 7), 0}) || w.Count(setOf(4, 7)) != 2 || w.Count(0) != 2 || w.Count(setOf(4)) != 0 {
		t.Error(w.Sigs())
	}
	if val, err := w.Get(entity.Of(2, 1), 7); err != api.OK || !slices.Equal(val, []api.Int{wide.Of(-5)}) {
		t.Error(val, err)
	}
}

// Each reason for which there is no room comes alone, and with all others.
func TestSpawnWithoutRoom(t *testing.T) {
	for faults := range 8 {
		c := capsOf(5, 5, 5)
		list := []api.Part{part(4)}
		if faults&1 != 0 {
			c.Ents = 2
		}
		if faults&2 != 0 {
			c.Rows = 2
		}
		if faults&4 != 0 {
			c.Archs = 1
			if faults&2 == 0 {
				list = []api.Part{part(9)}
			}
		}
		w := newTwin(t, five(), c)
		w.spawn(t, part(4))
		w.spawn(t, part(4))
		want := api.OK
		if faults != 0 {
			want = api.ErrFull
		}
		for range 2 {
			if _, err := w.spawn(t, list...); err != want {
				t.Error(faults, err)
			}
			if want == api.OK {
				break
			}
		}
		agreeBeyond(t, w)
	}
}

// The limits: 256 ids, 256 rows, 64 tables, of 24 components.
func TestMost(t *testing.T) {
	w := newTwin(t, whole(), api.Caps{Ents: 256, Rows: 256, Archs: 64, Gens: 65535})
	dice := rand.New(rand.NewPCG(18, 1))
	ids := idsOf(whole())
	for i := range 257 {
		want := api.OK
		if i == 256 {
			want = api.ErrFull
		}
		if _, err := w.spawn(t, partsOf(dice, whole(), ids)...); err != want {
			t.Fatal(i, err)
		}
	}
	agree(t, w)
	tables := 1
	for a := 1; a <= 24 && tables < 64; a++ {
		for b := a + 1; b <= 24 && tables < 64; b++ {
			e := entity.Of(tables, 1)
			w.despawn(t, e)
			if _, err := w.spawn(t, somePart(dice, whole(), a), somePart(dice, whole(), b)); err != api.OK {
				t.Fatal(a, b, err)
			}
			tables++
		}
	}
	if err := w.despawn(t, entity.Of(200, 1)); err != api.OK {
		t.Fatal(err)
	}
	if _, err := w.spawn(t); err != api.ErrFull {
		t.Error(err)
	}
	if err := w.remove(t, entity.Of(201, 1), 24); err != api.ErrFull {
		t.Error(err)
	}
	if err := w.add(t, entity.Of(1, 2), somePart(dice, whole(), 20)); err != api.ErrFull {
		t.Error(err)
	}
	if _, err := w.spawn(t, partsOf(dice, whole(), ids)...); err != api.OK || len(w.w.Sigs()) != 64 {
		t.Error(err, len(w.w.Sigs()))
	}
	agreeBeyond(t, w)
}

// An id that is retired is nobody's any more.
func TestGens(t *testing.T) {
	c := capsOf(2, 2, 2)
	c.Gens = 3
	w := newTwin(t, five(), c)
	for n := range 6 {
		e, err := w.spawn(t, part(4))
		if err != api.OK || e != entity.Of(n/3+1, n%3+1) {
			t.Fatal(n, e, err)
		}
		w.despawn(t, e)
		agreeBeyond(t, w)
	}
	if e, err := w.spawn(t, part(4)); e != 0 || err != api.ErrFull {
		t.Error(e, err)
	}
	if w.w.Count(setOf(4)) != 0 || len(w.w.Sigs()) != 1 {
		t.Error(w.w.Sigs())
	}
}

// P18.3

func TestMatchByHand(t *testing.T) {
	w := world.New(five(), capsOf(9, 9, 9))
	for _, list := range [][]api.Part{{part(4)}, {part(4), part(9)}, {part(9)}, {}, {part(9), part(4)}} {
		w.Spawn(list)
	}
	a, b, c, d, e := entity.Of(1, 1), entity.Of(2, 1), entity.Of(3, 1), entity.Of(4, 1), entity.Of(5, 1)
	for i, x := range []struct {
		all, none sig.Sig
		want      []api.Ent
	}{
		{0, 0, []api.Ent{a, b, c, d, e}},
		{setOf(4), 0, []api.Ent{a, b, e}},
		{setOf(4), setOf(9), []api.Ent{a}},
		{0, setOf(9), []api.Ent{a, d}},
		{setOf(4, 9), 0, []api.Ent{b, e}},
		{0, setOf(4, 9), []api.Ent{d}},
		{setOf(4), setOf(4), nil},
		{setOf(9), setOf(1, 24), []api.Ent{b, c, e}},
		{setOf(1), 0, nil},
		{setOf(4, 2), 0, nil},
		// Bits that can't be play no part.
		{setOf(4, 0, 25, 31), 0, []api.Ent{a, b, e}},
		{setOf(4), setOf(9, 0, 25, 31), []api.Ent{a}},
		{setOf(31), setOf(31), []api.Ent{a, b, c, d, e}},
	} {
		if got := w.Match(x.all, x.none); !slices.Equal(got, x.want) {
			t.Error(i, got)
		}
	}
	for set, n := range map[sig.Sig]int{0: 1, setOf(4): 1, setOf(9): 1, setOf(4, 9): 2, setOf(4, 9, 31): 0, setOf(0): 0, setOf(1): 0, 1<<32 - 1: 0} {
		if w.Count(set) != n {
			t.Error(set, w.Count(set))
		}
	}
}

// By rising ids, whatever generations they have, and in which order they came.
func TestLiveByIds(t *testing.T) {
	w := newTwin(t, five(), capsOf(6, 6, 6))
	for range 6 {
		w.spawn(t, part(4))
	}
	for _, id := range []int{2, 5, 1} {
		w.despawn(t, entity.Of(id, 1))
	}
	w.spawn(t, part(9))
	w.spawn(t, part(4), part(9))
	want := []api.Ent{entity.Of(1, 2), entity.Of(2, 2), entity.Of(3, 1), entity.Of(4, 1), entity.Of(6, 1)}
	if got := w.w.Live(); !slices.Equal(got, want) {
		t.Error(got)
	}
	if got := w.w.Match(setOf(4), 0); !slices.Equal(got, want[1:]) {
		t.Error(got)
	}
	agreeBeyond(t, w)
}

// A table stays where it is, also when nobody is there any more.
func TestSigsStay(t *testing.T) {
	w := newTwin(t, five(), capsOf(5, 1, 5))
	e, _ := w.spawn(t, part(9))
	w.add(t, e, part(4))
	w.remove(t, e, 9)
	w.remove(t, e, 4)
	w.despawn(t, e)
	want := []sig.Sig{setOf(9), setOf(4, 9), setOf(4), 0}
	if !slices.Equal(w.w.Sigs(), want) {
		t.Error(w.w.Sigs())
	}
	for range 2 {
		w.spawn(t, part(4))
		w.spawn(t)
	}
	if !slices.Equal(w.w.Sigs(), want) {
		t.Error(w.w.Sigs())
	}
	agreeBeyond(t, w)
}

func TestIndexIsACopy(t *testing.T) {
	w := newTwin(t, five(), capsOf(3, 3, 3))
	one, _ := w.spawn(t, part(4))
	x := w.w.Index()
	x.Kill(one)
	x.Spawn()
	x.Spawn()
	agreeBeyond(t, w)
	y := w.w.Index()
	w.spawn(t, part(9))
	if y.Count() != 1 || y.Next() != entity.Of(2, 1) {
		t.Error(y.Live(), y.Next())
	}
	agreeBeyond(t, w)
}

func TestCloneSharesNothing(t *testing.T) {
	for seed := range uint64(60) {
		dice := rand.New(rand.NewPCG(18, 100+seed))
		p := newTwin(t, five(), capsOf(2+dice.IntN(9), 1+dice.IntN(5), 1+dice.IntN(20)))
		for range dice.IntN(60) {
			deed(t, dice, p)
		}
		if dice.IntN(2) == 0 {
			if h, err := heirOf(t, dice, p, five()); err == api.OK {
				p = h
			}
		}
		q := p.clone(t)
		agreeBeyond(t, q)
		for range 60 {
			one := p
			if dice.IntN(2) == 0 {
				one = q
			}
			deed(t, dice, one)
			agree(t, p)
			agree(t, q)
		}
		r := q.clone(t)
		agreeBeyond(t, p)
		agreeBeyond(t, r)
	}
}

func TestNil(t *testing.T) {
	var w *world.World
	for _, e := range []api.Ent{0, 1, entity.Of(1, 1), 1<<64 - 1} {
		isNobody(t, w, e, api.ErrNil)
	}
	for _, parts := range [][]api.Part{nil, {part(4)}, {part(0), part(0)}} {
		if e, err := w.Spawn(parts); e != 0 || err != api.ErrNil {
			t.Error(e, err)
		}
	}
	for _, s := range []api.Schema{{}, five()} {
		for _, first := range [][]sig.Sig{nil, {1}} {
			for _, list := range [][]world.Await{nil, {{}}} {
				if h, err := w.Heir(s, first, list); h != nil || err != api.ErrNil {
					t.Error(h, err)
				}
			}
		}
	}
	for _, set := range []sig.Sig{0, setOf(4), 1<<32 - 1} {
		if w.Count(set) != 0 || len(w.Match(set, 0)) != 0 || len(w.Match(0, set)) != 0 {
			t.Error(set)
		}
	}
	if s := w.Schema(); s.Version != 0 || len(s.Comps) != 0 {
		t.Error(s)
	}
	if (w.Caps() != api.Caps{}) || len(w.Live())+len(w.Sigs())+len(w.Awaited()) != 0 || w.Index() != nil || w.Clone() != nil {
		t.Error("nil")
	}
}

// Rule 3: what is handed in isn't changed and not kept, its spare room neither.
func TestNothingHandedInIsKept(t *testing.T) {
	s := five()
	w := twin{world.New(s, capsOf(9, 9, 9)), newBook(s, capsOf(9, 9, 9)), entity.New(9, api.MaxGens)}
	spare := append(make([]api.Part, 0, 9), part(7, 3), part(4))
	e, _ := w.spawn(t, spare...)
	p := part(24, 1, 2, 3, 4)
	w.add(t, e, p)
	q := part(7, 8)
	w.set(t, e, q)
	first := append(make([]sig.Sig, 0, 9), setOf(9), setOf(4))
	list := append(make([]world.Await, 0, 9), world.Await{Ent: e, Sig: setOf(7)})
	h, _ := w.heir(t, s, first, list)
	r := []api.Part{part(7, 5)}
	h.place(t, e, r...)
	if !schema.Same(s, five()) || first[0] != setOf(9) || list[0].Sig != setOf(7) {
		t.Error("changed")
	}
	for i, want := range []api.Int{wide.Of(3), wide.Of(1), wide.Of(8), wide.Of(5)} {
		if got := []api.Int{spare[0].Val[0], p.Val[0], q.Val[0], r[0].Val[0]}[i]; got != want {
			t.Error(i, got)
		}
	}
	for _, val := range [][]api.Int{spare[0].Val, p.Val, q.Val, r[0].Val} {
		clear(val[:cap(val)])
	}
	for _, x := range spare[len(spare):cap(spare)] {
		if x.Comp != 0 || x.Val != nil {
			t.Error(x)
		}
	}
	clear(spare[:cap(spare)])
	clear(first[:cap(first)])
	clear(list[:cap(list)])
	for i := range s.Comps {
		clear(s.Comps[i].Fields)
	}
	clear(s.Comps)
	agreeBeyond(t, w)
	agreeBeyond(t, h)
	w.remove(t, e, 4)
	h.add(t, e, part(24, 1, 2, 3, 4))
	agreeBeyond(t, w)
	agreeBeyond(t, h)
}

// Rule 3: what is answered is new memory.
func TestAnswersAreNew(t *testing.T) {
	w := newTwin(t, five(), capsOf(9, 9, 9))
	e, _ := w.spawn(t, part(7, 3), part(24, 1, 2, 3, 4))
	w.spawn(t, part(4))
	h, _ := w.heir(t, five(), nil, []world.Await{{Ent: e, Sig: setOf(7)}, {Ent: entity.Of(2, 1)}})
	for _, x := range []twin{w, h} {
		for _, list := range [][]api.Ent{x.w.Live(), x.w.Match(0, 0), x.w.Awaited()} {
			clear(list[:cap(list)])
		}
		sigs := x.w.Sigs()
		clear(sigs[:cap(sigs)])
		val, _ := x.w.Get(e, 24)
		clear(val[:cap(val)])
		parts, _ := x.w.Parts(e)
		for _, p := range parts {
			clear(p.Val[:cap(p.Val)])
		}
		clear(parts[:cap(parts)])
		s := x.w.Schema()
		for i := range s.Comps {
			clear(s.Comps[i].Fields[:cap(s.Comps[i].Fields)])
		}
		clear(s.Comps[:cap(s.Comps)])
		agreeBeyond(t, x)
	}
	parts, _ := w.w.Parts(e)
	_ = append(parts[0].Val, wide.Of(99))
	if !slices.Equal(parts[1].Val, part(24, 1, 2, 3, 4).Val) {
		t.Error(parts)
	}
	// An answer of before doesn't change with the world.
	w.set(t, e, part(7, 100))
	w.despawn(t, entity.Of(2, 1))
	if parts[0].Val[0] != wide.Of(3) {
		t.Error(parts)
	}
	agreeBeyond(t, w)
}
