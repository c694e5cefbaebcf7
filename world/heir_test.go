package world_test

import (
	"math/rand/v2"
	"slices"
	"testing"

	"retrofit/api"
	"retrofit/entity"
	"retrofit/sig"
	"retrofit/wide"
	"retrofit/world"
)

// P18.4

// three is a world of three who live, of the ids 1, 2 and 4, these of unlike
// generations.
func three(t testing.TB, c api.Caps) (twin, [3]api.Ent) {
	t.Helper()
	w := newTwin(t, five(), c)
	list := []api.Ent{}
	for i, p := range []api.Part{part(7, 1), part(9), part(7, 2), part(9)} {
		e, err := w.spawn(t, p)
		if err != api.OK {
			t.Fatal(i, err)
		}
		list = append(list, e)
	}
	w.despawn(t, list[0])
	w.despawn(t, list[2])
	e, _ := w.spawn(t, part(4))
	return w, [3]api.Ent{e, list[1], list[3]}
}

func TestHeirByHand(t *testing.T) {
	w, who := three(t, capsOf(4, 4, 4))
	list := []world.Await{{Ent: who[2], Sig: setOf(4, 24)}, {Ent: who[0], Sig: setOf(12)}, {Ent: who[1], Sig: setOf(4, 24)}}
	h, err := w.w.Heir(other(), []sig.Sig{setOf(24), setOf(12), setOf(24)}, list)
	if err != api.OK {
		t.Fatal(err)
	}
	if !slices.Equal(h.Sigs(), []sig.Sig{setOf(24), setOf(12), setOf(4, 24)}) {
		t.Error(h.Sigs())
	}
	if !slices.Equal(h.Live(), who[:]) || !slices.Equal(h.Awaited(), who[:]) || !entity.Same(h.Index(), w.w.Index()) {
		t.Error(h.Live(), h.Awaited())
	}
	if h.Schema().Version != 9 || h.Caps() != w.w.Caps() {
		t.Error(h.Schema(), h.Caps())
	}
	for set, n := range map[sig.Sig]int{setOf(24): 0, setOf(12): 1, setOf(4, 24): 2, setOf(7): 0, 0: 0} {
		if h.Count(set) != n {
			t.Error(set, h.Count(set))
		}
	}
	if got := h.Match(setOf(24), 0); !slices.Equal(got, who[1:]) {
		t.Error(got)
	}
	if set, err := h.Sig(who[0]); err != api.OK || set != setOf(12) {
		t.Error(set, err)
	}
	agreeBeyond(t, w)
}

func TestAwaitedOnesAnswers(t *testing.T) {
	w, who := three(t, capsOf(4, 4, 4))
	h, _ := w.heir(t, other(), nil, []world.Await{{Ent: who[0], Sig: setOf(4, 24)}, {Ent: who[1], Sig: setOf(12)}, {Ent: who[2]}})
	e := who[0]
	for i, x := range []struct{ got, want api.Errno }{
		{h.add(t, e, part(12)), api.ErrState},
		{h.add(t, e, part(24)), api.ErrState},
		{h.add(t, e, part(24, 1)), api.ErrForm},
		{h.add(t, e, part(7, 1)), api.ErrNone},
		{h.remove(t, e, 24), api.ErrState},
		{h.remove(t, e, 12), api.ErrState},
		{h.remove(t, e, 0), api.ErrState},
		{h.set(t, e, part(4, 1, 1)), api.ErrState},
		{h.set(t, e, part(12)), api.ErrState},
		{h.set(t, e, part(4, 1, 1<<16)), api.ErrRange},
		{h.set(t, e, part(7, 1)), api.ErrNone},
		{h.add(t, entity.Of(4, 2), part(12)), api.ErrStale},
	} {
		if x.got != x.want {
			t.Error(i, x.got, x.want)
		}
	}
	for _, id := range []int{4, 24, 12, 7, 0, 36} {
		if val, err := h.w.Get(e, id); err != api.ErrState || len(val) != 0 {
			t.Error(id, val, err)
		}
	}
	if parts, err := h.w.Parts(e); err != api.ErrState || len(parts) != 0 {
		t.Error(parts, err)
	}
	agreeBeyond(t, h)
}

func TestPlaceByHand(t *testing.T) {
	w, who := three(t, capsOf(4, 4, 4))
	h, _ := w.heir(t, other(), nil, []world.Await{{Ent: who[0], Sig: setOf(4, 24)}, {Ent: who[1], Sig: setOf(12)}, {Ent: who[2]}})
	hp := func(a, b int) api.Part { return part(4, a, b) }
	for i, x := range []struct {
		e     api.Ent
		parts []api.Part
		want  api.Errno
	}{
		// That nobody lives so is told first, ...
		{entity.Of(1, 1), []api.Part{hp(1, 2), part(24)}, api.ErrStale},
		{entity.Of(3, 1), nil, api.ErrStale},
		{0, nil, api.ErrStale},
		// ... then that the parts are others, ...
		{who[0], nil, api.ErrForm},
		{who[0], []api.Part{hp(1, 2)}, api.ErrForm},
		{who[0], []api.Part{part(24)}, api.ErrForm},
		{who[0], []api.Part{hp(1, 2), part(24), part(12)}, api.ErrForm},
		{who[0], []api.Part{hp(1, 2), part(24), part(24)}, api.ErrForm},
		{who[0], []api.Part{hp(1, 2), hp(1, 2)}, api.ErrForm},
		{who[0], []api.Part{hp(1, 2), part(12)}, api.ErrForm},
		{who[0], []api.Part{hp(1, 2), part(24), part(0)}, api.ErrForm},
		{who[0], []api.Part{hp(1, 2), part(24), part(25)}, api.ErrForm},
		{who[0], []api.Part{hp(1, 2), part(56)}, api.ErrForm},
		{who[0], []api.Part{hp(1, 1<<16), part(7, 999)}, api.ErrForm},
		{who[2], []api.Part{part(12)}, api.ErrForm},
		{who[2], []api.Part{part(12), part(12)}, api.ErrForm},
		{who[2], []api.Part{part(0)}, api.ErrForm},
		{who[2], []api.Part{part(25)}, api.ErrForm},
		{who[2], []api.Part{part(44)}, api.ErrForm},
		{who[2], []api.Part{part(minInt)}, api.ErrForm},
		// ... then what is wrong with them, part by part.
		{who[0], []api.Part{hp(1, 1<<16), part(24)}, api.ErrRange},
		{who[0], []api.Part{hp(1, 1<<16), part(24, 1)}, api.ErrRange},
		{who[0], []api.Part{part(24, 1), hp(1, 1<<16)}, api.ErrForm},
		{who[0], []api.Part{part(4, 1), part(24)}, api.ErrForm},
		{who[0], []api.Part{part(24), hp(1, 1<<16-1)}, api.OK},
		{who[0], []api.Part{part(24), hp(1, 2)}, api.ErrNone},
		{who[0], nil, api.ErrNone},
		{who[0], []api.Part{part(0)}, api.ErrNone},
		{who[2], nil, api.OK},
		{who[2], []api.Part{}, api.ErrNone},
	} {
		if err := h.place(t, x.e, x.parts...); err != x.want {
			t.Error(i, err, x.want)
		}
		agree(t, h)
	}
	if !slices.Equal(h.w.Awaited(), who[1:2]) {
		t.Error(h.w.Awaited())
	}
	if val, err := h.w.Get(who[0], 4); err != api.OK || !slices.Equal(val, []api.Int{wide.Of(1), wide.Of(1<<16 - 1)}) {
		t.Error(val, err)
	}
	// Nobody is awaited who came by Spawn.
	e, _ := h.spawn(t, part(12))
	if err := h.place(t, e, part(12)); err != api.ErrNone {
		t.Error(err)
	}
	agreeBeyond(t, h)
}

// The Ents of the list are just those who live, in any order, each once.
func TestHeirOfLists(t *testing.T) {
	w, who := three(t, capsOf(4, 4, 4))
	a, b, c := who[0], who[1], who[2]
	for i, x := range []struct {
		ents []api.Ent
		want api.Errno
	}{
		{[]api.Ent{a, b, c}, api.OK},
		{[]api.Ent{a, c, b}, api.OK},
		{[]api.Ent{b, a, c}, api.OK},
		{[]api.Ent{b, c, a}, api.OK},
		{[]api.Ent{c, a, b}, api.OK},
		{[]api.Ent{c, b, a}, api.OK},
		{nil, api.ErrArg},
		{[]api.Ent{a, b}, api.ErrArg},
		{[]api.Ent{b, c}, api.ErrArg},
		{[]api.Ent{a, b, c, a}, api.ErrArg},
		{[]api.Ent{a, b, b}, api.ErrArg},
		{[]api.Ent{c, c, c}, api.ErrArg},
		{[]api.Ent{a, b, 0}, api.ErrArg},
		{[]api.Ent{0, a, b, c}, api.ErrArg},
		{[]api.Ent{a, b, c + 1<<32}, api.ErrArg},
		{[]api.Ent{a - 1<<32, b, c}, api.ErrArg},
		{[]api.Ent{a, b, entity.Of(3, 2)}, api.ErrArg},
		{[]api.Ent{a, b, c, entity.Of(3, 2)}, api.ErrArg},
		{[]api.Ent{a, b, 1<<64 - 1}, api.ErrArg},
	} {
		list := []world.Await{}
		for _, e := range x.ents {
			list = append(list, world.Await{Ent: e, Sig: setOf(12)})
		}
		h, err := w.heir(t, other(), nil, list)
		if err != x.want {
			t.Error(i, err)
		}
		if err == api.OK {
			agreeBeyond(t, h)
		}
	}
	empty := newTwin(t, five(), capsOf(1, 1, 1))
	if _, err := empty.heir(t, five(), nil, []world.Await{{}}); err != api.ErrArg {
		t.Error(err)
	}
	h, err := empty.heir(t, five(), nil, nil)
	if err != api.OK {
		t.Fatal(err)
	}
	agreeBeyond(t, h)
}

func TestHeirOfWrongSchemas(t *testing.T) {
	want := map[string]api.Errno{"no name": api.ErrForm, "name twice": api.ErrForm, "field name twice": api.ErrForm, "row too long": api.ErrFull}
	w, who := three(t, capsOf(4, 4, 4))
	right := []world.Await{{Ent: who[0]}, {Ent: who[1]}, {Ent: who[2]}}
	for name, s := range wrongSchemas() {
		err := want[name]
		if err == api.OK {
			err = api.ErrArg
		}
		for _, list := range [][]world.Await{right, nil, {{Ent: 5, Sig: 1}}} {
			for _, first := range [][]sig.Sig{nil, {1}, {0, 2, 4, 8, 16}} {
				if _, e := w.heir(t, s, first, list); e != err {
					t.Error(name, e)
				}
			}
		}
	}
	agreeBeyond(t, w)
}

// Set by set, and then one by one, the first error is told.
func TestHeirOfSets(t *testing.T) {
	w, who := three(t, capsOf(4, 2, 3))
	for i, x := range []struct {
		first []sig.Sig
		sets  [3]sig.Sig
		want  api.Errno
		made  []sig.Sig
	}{
		{nil, [3]sig.Sig{0, 0, setOf(4)}, api.OK, []sig.Sig{0, setOf(4)}},
		{nil, [3]sig.Sig{setOf(24), 0, setOf(4)}, api.OK, []sig.Sig{setOf(24), 0, setOf(4)}},
		{[]sig.Sig{setOf(4), 0}, [3]sig.Sig{setOf(24), 0, setOf(4)}, api.OK, []sig.Sig{setOf(4), 0, setOf(24)}},
		{[]sig.Sig{setOf(4), setOf(4), 0, 0, setOf(4), setOf(12)}, [3]sig.Sig{0, 0, setOf(4)}, api.OK, []sig.Sig{setOf(4), 0, setOf(12)}},
		// No room for a table, ...
		{[]sig.Sig{setOf(4), 0, setOf(12), setOf(24)}, [3]sig.Sig{}, api.ErrFull, nil},
		{[]sig.Sig{setOf(4), 0, setOf(12)}, [3]sig.Sig{0, 0, setOf(24)}, api.ErrFull, nil},
		// ... or in it, ...
		{nil, [3]sig.Sig{0, 0, 0}, api.ErrFull, nil},
		{[]sig.Sig{setOf(4)}, [3]sig.Sig{setOf(4), setOf(4), setOf(4)}, api.ErrFull, nil},
		// ... or what the schema hasn't, or can't be.
		{[]sig.Sig{setOf(7)}, [3]sig.Sig{0, 0, setOf(4)}, api.ErrNone, nil},
		{[]sig.Sig{setOf(0)}, [3]sig.Sig{0, 0, setOf(4)}, api.ErrNone, nil},
		{[]sig.Sig{setOf(4, 31)}, [3]sig.Sig{0, 0, setOf(4)}, api.ErrNone, nil},
		{nil, [3]sig.Sig{0, 0, setOf(7)}, api.ErrNone, nil},
		{nil, [3]sig.Sig{setOf(25), 0, 0}, api.ErrNone, nil},
		{nil, [3]sig.Sig{0, 0, 1<<32 - 1}, api.ErrNone, nil},
		// The first one.
		{[]sig.Sig{setOf(4), 0, setOf(12), setOf(24), setOf(7)}, [3]sig.Sig{}, api.ErrFull, nil},
		{[]sig.Sig{setOf(4), 0, setOf(12), setOf(7), setOf(24)}, [3]sig.Sig{}, api.ErrNone, nil},
		{[]sig.Sig{setOf(4), 0, setOf(12), setOf(24)}, [3]sig.Sig{setOf(7), 0, 0}, api.ErrFull, nil},
		{[]sig.Sig{setOf(7)}, [3]sig.Sig{0, 0, 0}, api.ErrNone, nil},
		{nil, [3]sig.Sig{setOf(7), 0, 0}, api.ErrNone, nil},
		{[]sig.Sig{setOf(12), setOf(24), setOf(12, 24)}, [3]sig.Sig{0, setOf(7), 0}, api.ErrFull, nil},
		{[]sig.Sig{setOf(12), setOf(24), setOf(12, 24)}, [3]sig.Sig{setOf(12), setOf(7), 0}, api.ErrNone, nil},
	} {
		list := []world.Await{}
		for k, e := range who {
			list = append(list, world.Await{Ent: e, Sig: x.sets[k]})
		}
		h, err := w.heir(t, other(), x.first, list)
		if err != x.want {
			t.Error(i, err)
		}
		if err == api.OK {
			if !slices.Equal(h.w.Sigs(), x.made) {
				t.Error(i, h.w.Sigs())
			}
			agreeBeyond(t, h)
		}
		// Who of these lives is asked ahead of all sets.
		if _, err := w.heir(t, other(), x.first, list[1:]); err != api.ErrArg {
			t.Error(i, err)
		}
		agree(t, w)
	}
}

// Awaited ones have their room: nobody else can take it, till they are there, or
// end.
func TestRoomOfAwaitedOnes(t *testing.T) {
	w, who := three(t, capsOf(6, 2, 4))
	h, _ := w.heir(t, other(), nil, []world.Await{{Ent: who[0], Sig: setOf(12)}, {Ent: who[1], Sig: setOf(12)}, {Ent: who[2], Sig: setOf(24)}})
	h.place(t, who[2], part(24))
	full := func(step int) {
		t.Helper()
		if _, err := h.spawn(t, part(12)); err != api.ErrFull {
			t.Error(step, err)
		}
		if err := h.add(t, who[2], part(12)); err != api.OK {
			t.Error(step, err)
		}
		if err := h.remove(t, who[2], 24); err != api.ErrFull {
			t.Error(step, err)
		}
		if err := h.remove(t, who[2], 12); err != api.OK {
			t.Error(step, err)
		}
		agreeBeyond(t, h)
	}
	full(1)
	h.place(t, who[1], part(12))
	full(2)
	h.despawn(t, who[0])
	agreeBeyond(t, h)
	if _, err := h.spawn(t, part(12)); err != api.OK {
		t.Error(err)
	}
	full(3)
	h.despawn(t, who[1])
	if err := h.add(t, who[2], part(12)); err != api.OK {
		t.Error(err)
	}
	if err := h.remove(t, who[2], 24); err != api.OK {
		t.Error(err)
	}
	agreeBeyond(t, h)
}

// An awaited one who ends isn't awaited any more, nor is who has their id then.
func TestDespawnOfAwaited(t *testing.T) {
	w, who := three(t, capsOf(4, 4, 4))
	h, _ := w.heir(t, other(), nil, []world.Await{{Ent: who[0], Sig: setOf(12)}, {Ent: who[1], Sig: setOf(12)}, {Ent: who[2], Sig: setOf(12)}})
	if err := h.despawn(t, who[1]); err != api.OK {
		t.Error(err)
	}
	if err := h.place(t, who[1], part(12)); err != api.ErrStale {
		t.Error(err)
	}
	e, _ := h.spawn(t, part(4, 1, 2))
	if entity.Id(e) != entity.Id(who[1]) || !slices.Equal(h.w.Awaited(), []api.Ent{who[0], who[2]}) {
		t.Error(e, h.w.Awaited())
	}
	agreeBeyond(t, h)
}

// As many as there can be, in whatever order they are placed.
func TestHeirOfMost(t *testing.T) {
	w := newTwin(t, five(), capsOf(256, 256, 3))
	for i := range 256 {
		w.spawn(t, part(7, i%128))
	}
	list := []world.Await{}
	dice := rand.New(rand.NewPCG(18, 7))
	for _, i := range dice.Perm(256) {
		list = append(list, world.Await{Ent: entity.Of(i+1, 1), Sig: setOf(4)})
	}
	h, err := w.heir(t, other(), nil, list)
	if err != api.OK {
		t.Fatal(err)
	}
	agree(t, h)
	for n, i := range dice.Perm(256) {
		if err := h.place(t, entity.Of(i+1, 1), part(4, i, n)); err != api.OK {
			t.Fatal(n, i, err)
		}
		if n%64 == 0 {
			agree(t, h)
		}
	}
	agreeBeyond(t, h)
}

// An heir, and whose heir it is, go on apart; what is done to one shows nowhere
// in the other one.
func TestHeirSharesNothing(t *testing.T) {
	made := 0
	for seed := range uint64(150) {
		dice := rand.New(rand.NewPCG(18, 200+seed))
		c := capsOf(2+dice.IntN(9), 1+dice.IntN(9), 1+dice.IntN(20))
		c.Gens = 1 + dice.IntN(9)
		p := newTwin(t, five(), c)
		for range dice.IntN(60) {
			deed(t, dice, p)
		}
		s := []api.Schema{five(), other(), whole()}[dice.IntN(3)]
		q, err := heirOf(t, dice, p, s)
		agreeBeyond(t, p)
		if err != api.OK {
			continue
		}
		made++
		agreeBeyond(t, q)
		for range 60 {
			one := p
			if dice.IntN(2) == 0 {
				one = q
			}
			deed(t, dice, one)
			agree(t, p)
			agree(t, q)
		}
		agreeBeyond(t, p)
		agreeBeyond(t, q)
		// An heir's heir awaits all again, who is there and who is awaited.
		if r, err := heirOf(t, dice, q, five()); err == api.OK {
			if !slices.Equal(r.w.Awaited(), q.w.Live()) {
				t.Fatal(r.w.Awaited(), q.w.Live())
			}
			agreeBeyond(t, r)
		}
		agreeBeyond(t, q)
	}
	if made < 50 {
		t.Error("too few", made)
	}
}

// In whatever order they are placed, the world tells the same in the end.
func TestPlaceInAnyOrder(t *testing.T) {
	for seed := range uint64(30) {
		dice := rand.New(rand.NewPCG(18, 600+seed))
		w := newTwin(t, five(), capsOf(12, 12, 40))
		for range 12 {
			w.spawn(t, partsOf(dice, five(), someIds(dice, five()))...)
		}
		h, err := heirOf(t, dice, w, other())
		if err != api.OK {
			t.Fatal(err)
		}
		values := map[api.Ent][]api.Part{}
		for _, l := range h.b.live() {
			values[l.e] = partsOf(dice, other(), l.ids())
		}
		var first told
		for n := range 4 {
			c := h.clone(t)
			live := c.w.Live()
			for _, i := range dice.Perm(len(live)) {
				if err := c.place(t, live[i], values[live[i]]...); err != api.OK {
					t.Fatal(err)
				}
			}
			if n == 0 {
				first = tell(c.w)
			}
			if !tell(c.w).same(first) || len(c.w.Awaited()) != 0 {
				t.Fatal(seed, n)
			}
			agree(t, c)
		}
	}
}
