package world_test

import (
	"maps"
	"math/rand/v2"
	"slices"
	"testing"

	"retrofit/api"
	"retrofit/entity"
	"retrofit/sig"
	"retrofit/wide"
	"retrofit/world"
)

// P18.2

func TestAddByHand(t *testing.T) {
	w := world.New(five(), capsOf(4, 1, 4))
	one, _ := w.Spawn([]api.Part{part(7, 5)})
	two, _ := w.Spawn([]api.Part{part(9)})
	for i, x := range []struct {
		e    api.Ent
		p    api.Part
		want api.Errno
		sets int
	}{
		{one, part(4), api.OK, 3},
		// That nobody lives so is told first, ...
		{0, part(2), api.ErrStale, 3},
		{entity.Of(1, 2), part(7, 128), api.ErrStale, 3},
		{entity.Of(3, 1), part(4), api.ErrStale, 3},
		// ... then what is wrong with the part, ...
		{one, part(2), api.ErrNone, 3},
		{one, part(36), api.ErrNone, 3},
		{one, part(4, 0), api.ErrForm, 3},
		{one, part(7), api.ErrForm, 3},
		{one, part(7, 128), api.ErrRange, 3},
		// ... then that they have it, ...
		{one, part(7, 5), api.ErrState, 3},
		{one, part(7, 6), api.ErrState, 3},
		{one, part(4), api.ErrState, 3},
		// ... and in the end that there is no room in the table, or for it.
		{two, part(4), api.OK, 4},
		{two, part(7, 1), api.ErrFull, 4},
		{one, part(24, 0, 0, 0, 0), api.ErrFull, 4},
		{one, part(24, 0, 0, 0, 1<<16), api.ErrRange, 4},
		{two, part(9), api.ErrState, 4},
	} {
		if err := w.Add(x.e, x.p); err != x.want || len(w.Sigs()) != x.sets {
			t.Error(i, err, w.Sigs())
		}
	}
	if !slices.Equal(w.Sigs(), []sig.Sig{setOf(7), setOf(9), setOf(4, 7), setOf(4, 9)}) {
		t.Error(w.Sigs())
	}
	if val, err := w.Get(one, 7); err != api.OK || !slices.Equal(val, []api.Int{wide.Of(5)}) {
		t.Error(val, err)
	}
}

func TestRemoveByHand(t *testing.T) {
	w := world.New(five(), capsOf(4, 1, 4))
	one, _ := w.Spawn([]api.Part{part(7, 5), part(4), part(9)})
	two, _ := w.Spawn([]api.Part{part(9)})
	for i, x := range []struct {
		e    api.Ent
		comp int
		want api.Errno
		sets int
	}{
		{0, 9, api.ErrStale, 2},
		{entity.Of(2, 2), 7, api.ErrStale, 2},
		{two, 7, api.ErrNone, 2},
		{two, 2, api.ErrNone, 2},
		{two, 0, api.ErrNone, 2},
		{two, 9 + 32, api.ErrNone, 2},
		{two, 9 - 32, api.ErrNone, 2},
		{two, minInt, api.ErrNone, 2},
		{two, maxInt, api.ErrNone, 2},
		{one, 7, api.OK, 3},
		{one, 7, api.ErrNone, 3},
		// There is no room in the table of 9 ...
		{one, 4, api.ErrFull, 3},
		{one, 9, api.OK, 4},
		{one, 9, api.ErrNone, 4},
		// ... and for no table more.
		{one, 4, api.ErrFull, 4},
		{two, 9, api.ErrFull, 4},
		{two, 4, api.ErrNone, 4},
	} {
		if err := w.Remove(x.e, x.comp); err != x.want || len(w.Sigs()) != x.sets {
			t.Error(i, err, w.Sigs())
		}
	}
	if !slices.Equal(w.Sigs(), []sig.Sig{setOf(4, 7, 9), setOf(9), setOf(4, 9), setOf(4)}) {
		t.Error(w.Sigs())
	}
}

func TestSetAndGetByHand(t *testing.T) {
	w := world.New(five(), capsOf(4, 4, 4))
	one, _ := w.Spawn([]api.Part{part(7, 5), part(4)})
	for i, x := range []struct {
		e    api.Ent
		p    api.Part
		want api.Errno
		val  int
	}{
		{one, part(7, -128), api.OK, -128},
		{one, part(7, -129), api.ErrRange, -128},
		{one, part(7, 127), api.OK, 127},
		{one, part(7, 128), api.ErrRange, 127},
		{one, part(7, 1, 1), api.ErrForm, 127},
		{one, part(4), api.OK, 127},
		{one, part(4, 1), api.ErrForm, 127},
		// What is wrong with the part is told ahead of that they haven't it.
		{one, part(9), api.ErrNone, 127},
		{one, part(9, 1), api.ErrForm, 127},
		{one, part(24, 1, 2, 3, 1<<16), api.ErrRange, 127},
		{one, part(24, 1, 2, 3, 4), api.ErrNone, 127},
		{one, part(2), api.ErrNone, 127},
		{one, part(39, 1), api.ErrNone, 127},
		{0, part(7, 1), api.ErrStale, 127},
		{entity.Of(1, 2), part(7, 999), api.ErrStale, 127},
		{entity.Of(2, 1), part(2), api.ErrStale, 127},
		{one, part(7, 0), api.OK, 0},
	} {
		if err := w.Set(x.e, x.p); err != x.want {
			t.Error(i, err)
		}
		if val, err := w.Get(one, 7); err != api.OK || !slices.Equal(val, []api.Int{wide.Of(x.val)}) {
			t.Error(i, val, err)
		}
	}
	for id, want := range map[int]api.Errno{4: api.OK, 7: api.OK, 9: api.ErrNone, 24: api.ErrNone, 2: api.ErrNone, 0: api.ErrNone, 39: api.ErrNone, minInt: api.ErrNone} {
		if _, err := w.Get(one, id); err != want {
			t.Error(id, err)
		}
	}
}

func TestPartsRise(t *testing.T) {
	w := world.New(five(), capsOf(4, 4, 4))
	one, _ := w.Spawn([]api.Part{part(24, 1, 2, 3, 4), part(4)})
	w.Add(one, part(1, 9, 8, -7, 1))
	w.Add(one, part(7, -1))
	parts, err := w.Parts(one)
	if err != api.OK || len(parts) != 4 {
		t.Fatal(parts, err)
	}
	for i, p := range []api.Part{part(1, 9, 8, -7, 1), part(4), part(7, -1), part(24, 1, 2, 3, 4)} {
		if parts[i].Comp != p.Comp || !slices.Equal(parts[i].Val, p.Val) {
			t.Error(i, parts[i])
		}
	}
	if set, err := w.Sig(one); err != api.OK || set != setOf(1, 4, 7, 24) {
		t.Error(set, err)
	}
	if _, err := w.Parts(entity.Of(1, 2)); err != api.ErrStale {
		t.Error(err)
	}
}

// Whose row is dropped, whose row stands in its place: all others have what they
// had, wherever the rows' chunks end.
func TestDespawnOfEachRow(t *testing.T) {
	for _, n := range []int{1, 2, 3, 15, 16, 17, 33} {
		for at := range n {
			w := newTwin(t, five(), capsOf(n, n, 2))
			for i := range n {
				w.spawn(t, part(7, i), part(4))
			}
			w.despawn(t, entity.Of(at+1, 1))
			agree(t, w)
			// Also where it was the moved one's.
			w.despawn(t, entity.Of(n, 1))
			w.spawn(t, part(4), part(7, 99))
			w.set(t, entity.Of(1, 1), part(7, 77))
			agree(t, w)
		}
	}
}

// Likewise of who goes to another table.
func TestMovesOfEachRow(t *testing.T) {
	for _, n := range []int{1, 2, 3, 16, 17} {
		for at := range n {
			w := newTwin(t, five(), capsOf(n, n, 3))
			for i := range n {
				w.spawn(t, part(7, i), part(4))
			}
			w.add(t, entity.Of(at+1, 1), part(24, 1, 2, 3, at))
			agree(t, w)
			w.remove(t, entity.Of(n, 1), 4)
			w.remove(t, entity.Of(at+1, 1), 24)
			agree(t, w)
			for i := range n {
				w.set(t, entity.Of(i+1, 1), part(7, 100-i))
			}
			agreeBeyond(t, w)
		}
	}
}

// Somebody with any set can come to any other one, component by component.
func TestAllSets(t *testing.T) {
	ids := idsOf(five())
	dice := rand.New(rand.NewPCG(18, 2))
	w := newTwin(t, five(), capsOf(3, 3, 32))
	w.spawn(t)
	e, _ := w.spawn(t)
	for range 40 {
		for _, i := range dice.Perm(5) {
			if set, _ := w.w.Sig(e); set.Has(ids[i]) {
				w.remove(t, e, ids[i])
			} else {
				w.add(t, e, somePart(dice, five(), ids[i]))
			}
			agree(t, w)
		}
	}
	agreeBeyond(t, w)
}

// Of several faults the one is told that the document names first; each comes
// alone, and with all others.
func TestDeedsOfManyFaults(t *testing.T) {
	stale, wrong, state, full := 1, 2, 4, 8
	for faults := range 16 {
		for _, fullBy := range []string{"rows", "tables"} {
			c := capsOf(5, 5, 5)
			if faults&full != 0 && fullBy == "rows" {
				c.Rows = 1
			}
			if faults&full != 0 && fullBy == "tables" {
				c.Archs = 3
			}
			for _, bad := range []struct {
				p    api.Part
				want api.Errno
			}{
				{part(2), api.ErrNone}, {part(33), api.ErrNone}, {part(7), api.ErrForm}, {part(7, 128), api.ErrRange},
			} {
				w := newTwin(t, five(), c)
				e, _ := w.spawn(t, part(4), part(7, 1))
				if fullBy == "rows" {
					w.spawn(t, part(4), part(7, 1), part(9))
					w.spawn(t, part(7, 1))
				} else {
					w.spawn(t)
					w.spawn(t, part(24, 1, 2, 3, 4))
				}
				p, had := part(9), part(4)
				wantAdd, wantRemove, wantSet := api.OK, api.OK, api.OK
				if faults&full != 0 {
					wantAdd, wantRemove = api.ErrFull, api.ErrFull
				}
				if faults&state != 0 {
					p, had = had, p
					wantAdd, wantRemove, wantSet = api.ErrState, api.ErrNone, api.ErrNone
				}
				remove := had.Comp
				if faults&wrong != 0 {
					p, had, remove = bad.p, bad.p, 2
					wantAdd, wantRemove, wantSet = bad.want, api.ErrNone, bad.want
				}
				if faults&stale != 0 {
					e = entity.Of(1, 2)
					wantAdd, wantRemove, wantSet = api.ErrStale, api.ErrStale, api.ErrStale
				}
				if err := w.clone(t).add(t, e, p); err != wantAdd {
					t.Error("Add", faults, fullBy, p, err)
				}
				if err := w.clone(t).remove(t, e, remove); err != wantRemove {
					t.Error("Remove", faults, fullBy, remove, err)
				}
				if err := w.clone(t).set(t, e, had); err != wantSet {
					t.Error("Set", faults, fullBy, had, err)
				}
				agree(t, w)
			}
		}
	}
}

// P18.5

// told is all that a world tells, as far as it can be compared.
type told struct {
	live, awaited []api.Ent
	sets          []sig.Sig
	parts         map[api.Ent][]api.Part
	index         *entity.Index
}

func tell(w *world.World) told {
	x := told{w.Live(), w.Awaited(), w.Sigs(), map[api.Ent][]api.Part{}, w.Index()}
	for _, e := range x.live {
		x.parts[e], _ = w.Parts(e)
	}
	return x
}

func (x told) same(y told) bool {
	samePart := func(p, q api.Part) bool { return p.Comp == q.Comp && slices.Equal(p.Val, q.Val) }
	sameParts := func(p, q []api.Part) bool { return slices.EqualFunc(p, q, samePart) }
	return slices.Equal(x.live, y.live) && slices.Equal(x.awaited, y.awaited) && slices.Equal(x.sets, y.sets) &&
		maps.EqualFunc(x.parts, y.parts, sameParts) && entity.Same(x.index, y.index)
}

// Whoever answers an error has changed nothing, that is told at once, or that
// later deeds would tell.
func TestErrorsChangeNothing(t *testing.T) {
	seen := map[api.Errno]int{}
	for seed := range uint64(60) {
		dice := rand.New(rand.NewPCG(18, 3000+seed))
		c := capsOf(1+dice.IntN(6), 1+dice.IntN(3), 1+dice.IntN(8))
		c.Gens = 1 + dice.IntN(20)
		w := newTwin(t, five(), c)
		for n := range 80 {
			if n%20 == 10 {
				w = orHeir(t, dice, w)
			}
			p := w.clone(t) // as it was
			was := tell(w.w)
			again := rand.New(rand.NewPCG(seed, uint64(dice.Uint32())))
			err := deed(t, again, w)
			seen[err]++
			if err == api.OK {
				continue
			}
			if !was.same(tell(w.w)) {
				t.Fatal(seed, err)
			}
			// Both go on in the same way.
			n := dice.Uint64()
			q := w.clone(t)
			one, two := rand.New(rand.NewPCG(seed, n)), rand.New(rand.NewPCG(seed, n))
			for range 10 {
				if a, b := deed(t, one, p), deed(t, two, q); a != b {
					t.Fatal(seed, a, b)
				}
			}
			if !tell(p.w).same(tell(q.w)) {
				t.Fatal(seed, err)
			}
		}
	}
	for _, e := range []api.Errno{api.OK, api.ErrStale, api.ErrNone, api.ErrState, api.ErrFull, api.ErrForm, api.ErrRange} {
		if seen[e] < 10 {
			t.Error("too few", e, seen)
		}
	}
}

// What somebody has hangs on what was done to them alone: in a world of their
// own they would have the same.
func TestAloneTheSame(t *testing.T) {
	for seed := range uint64(20) {
		dice := rand.New(rand.NewPCG(18, 4000+seed))
		w := world.New(five(), capsOf(30, 30, 40))
		alone := map[api.Ent]*world.World{}
		only := entity.Of(1, 1)
		for range 400 {
			live := w.Live()
			if len(live) == 0 || dice.IntN(8) == 0 {
				parts := partsOf(dice, five(), someIds(dice, five()))
				if e, err := w.Spawn(parts); err == api.OK {
					alone[e] = world.New(five(), capsOf(1, 1, 40))
					alone[e].Spawn(parts)
				}
				continue
			}
			e := live[dice.IntN(len(live))]
			p := somePart(dice, five(), idsOf(five())[dice.IntN(5)])
			var a, b api.Errno
			switch dice.IntN(10) {
			case 0:
				a = w.Despawn(e)
				delete(alone, e)
			case 1, 2, 3:
				a, b = w.Add(e, p), alone[e].Add(only, p)
			case 4, 5, 6:
				a, b = w.Remove(e, p.Comp), alone[e].Remove(only, p.Comp)
			default:
				a, b = w.Set(e, p), alone[e].Set(only, p)
			}
			if a != b {
				t.Fatal(e, p, a, b)
			}
			for e, x := range alone {
				got, _ := w.Parts(e)
				want, err := x.Parts(only)
				if err != api.OK || !slices.EqualFunc(got, want, func(p, q api.Part) bool { return p.Comp == q.Comp && slices.Equal(p.Val, q.Val) }) {
					t.Fatal(e, got, want, err)
				}
			}
		}
	}
}

func TestManyDeeds(t *testing.T) {
	seen := map[api.Errno]int{}
	for seed := range uint64(120) {
		dice := rand.New(rand.NewPCG(18, 1000+seed))
		s := five()
		if seed%4 == 0 {
			s = whole()
		}
		c := capsOf(1+dice.IntN(20), 1+dice.IntN(20), 1+dice.IntN(64))
		c.Gens = 1 + dice.IntN(9)
		w := newTwin(t, s, c)
		for n := range 150 {
			if n%50 == 25 {
				w = orHeir(t, dice, w)
			}
			seen[deed(t, dice, w)]++
			agree(t, w)
		}
		agreeBeyond(t, w)
	}
	for _, e := range []api.Errno{api.OK, api.ErrArg, api.ErrStale, api.ErrNone, api.ErrState, api.ErrFull, api.ErrForm, api.ErrRange} {
		if seen[e] < 30 {
			t.Error("too few", e, seen)
		}
	}
}

func FuzzDeeds(f *testing.F) {
	f.Add(uint8(3), uint8(31), uint8(7), uint64(1), uint8(40))
	f.Add(uint8(0), uint8(0), uint8(0), uint64(2), uint8(255))
	f.Add(uint8(255), uint8(18), uint8(63), uint64(3), uint8(100))
	f.Fuzz(func(t *testing.T, ents, rows, archs uint8, seed uint64, deeds uint8) {
		dice := rand.New(rand.NewPCG(18, seed))
		s := five()
		if seed%2 == 0 {
			s = whole()
		}
		c := capsOf(1+int(ents), 1+int(rows), 1+int(archs)%64)
		c.Gens = 1 + int(seed%65535)
		w := newTwin(t, s, c)
		for range deeds {
			switch dice.IntN(30) {
			case 0:
				w = w.clone(t)
			case 1:
				w = orHeir(t, dice, w)
			}
			deed(t, dice, w)
			agree(t, w)
		}
		agreeBeyond(t, w)
	})
}
