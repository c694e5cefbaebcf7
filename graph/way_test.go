package graph_test

import (
	"math/rand/v2"
	"slices"
	"testing"

	"retrofit/api"
	"retrofit/graph"
	"retrofit/sig"
)

// P17.2

// The document's example.
func TestThreeSteps(t *testing.T) {
	g := graph.New(api.Schema{Version: 1, Comps: []api.Comp{comp(1, "a"), comp(2, "b")}}, 64, 1)
	g.Make(0)
	for _, x := range []struct {
		from, comp int
		add        bool
		to         int
	}{
		{0, 1, true, 1}, {1, 2, true, 2}, {2, 1, false, 3},
	} {
		if to, e := g.Step(x.from, x.comp, x.add); to != x.to || e != api.OK {
			t.Error(x, to, e)
		}
	}
	if g.Len() != 4 || g.Ways() != 6 || !slices.Equal(g.Sigs(), []sig.Sig{0, setOf(1), setOf(1, 2), setOf(2)}) {
		t.Error(g.Len(), g.Ways(), g.Sigs())
	}
}

func TestStepByHand(t *testing.T) {
	g := graph.New(five(), 4, 2)
	g.Make(setOf(1, 4)) // 0
	g.Make(setOf(4))    // 1
	for i, x := range []struct {
		from, comp int
		add        bool
		to         int
		want       api.Errno
		len, ways  int
	}{
		// To a table that there is already, though nobody went there.
		{0, 1, false, 1, api.OK, 2, 2},
		{1, 1, true, 0, api.OK, 2, 2},
		{0, 1, false, 1, api.OK, 2, 2},
		// That there is no such table is told first, ...
		{2, 1, true, 0, api.ErrRange, 2, 2},
		{-1, 2, true, 0, api.ErrRange, 2, 2},
		{2, 0, false, 0, api.ErrRange, 2, 2},
		// ... then that the schema hasn't the component, added or removed, ...
		{0, 2, true, 0, api.ErrNone, 2, 2},
		{0, 2, false, 0, api.ErrNone, 2, 2},
		{0, 0, true, 0, api.ErrNone, 2, 2},
		{0, 25, false, 0, api.ErrNone, 2, 2},
		{0, 32 + 4, false, 0, api.ErrNone, 2, 2},
		// ... then that the set has it, or hasn't, ...
		{0, 1, true, 0, api.ErrState, 2, 2},
		{0, 4, true, 0, api.ErrState, 2, 2},
		{1, 1, false, 0, api.ErrState, 2, 2},
		{0, 24, false, 0, api.ErrState, 2, 2},
		// ... and in the end that there is no room.
		{1, 4, false, 2, api.OK, 3, 4},
		{2, 24, true, 3, api.OK, 4, 6},
		{3, 24, true, 0, api.ErrState, 4, 6},
		{3, 2, true, 0, api.ErrNone, 4, 6},
		{3, 7, true, 0, api.ErrFull, 4, 6},
		{1, 24, true, 0, api.ErrFull, 4, 6},
		{0, 4, false, 0, api.ErrFull, 4, 6},
		{4, 7, true, 0, api.ErrRange, 4, 6},
		// Ways between tables that there are can be gone without room.
		{3, 24, false, 2, api.OK, 4, 6},
		{2, 4, true, 1, api.OK, 4, 6},
		{1, 1, true, 0, api.OK, 4, 6},
	} {
		if to, e := g.Step(x.from, x.comp, x.add); to != x.to || e != x.want || g.Len() != x.len || g.Ways() != x.ways {
			t.Error(i, to, e, g.Len(), g.Ways())
		}
	}
	if !slices.Equal(g.Sigs(), []sig.Sig{setOf(1, 4), setOf(4), 0, setOf(24)}) {
		t.Error(g.Sigs())
	}
}

func TestKnowsByHand(t *testing.T) {
	g := graph.New(five(), 9, 2)
	g.Make(0)
	g.Make(setOf(4))
	if g.Knows(0, 4, true) || g.Knows(1, 4, false) || g.Ways() != 0 {
		t.Error("nobody went there")
	}
	g.Step(1, 4, false)
	for _, x := range []struct {
		from, comp int
		add, want  bool
	}{
		{1, 4, false, true}, {0, 4, true, true},
		{1, 4, true, false}, {0, 4, false, false},
		{0, 7, true, false}, {1, 7, true, false}, {0, 1, true, false},
		{2, 4, false, false}, {-1, 4, true, false},
		{0, 36, true, false}, {1, -28, false, false}, {0, 1<<32 + 4, true, false}, {1 << 32, 4, true, false},
	} {
		if g.Knows(x.from, x.comp, x.add) != x.want {
			t.Error(x)
		}
	}
	if g.Ways() != 2 || g.Len() != 2 {
		t.Error(g.Ways(), g.Len())
	}
}

// Of several faults the one is told that the document names first; each comes
// alone, and with all others.
func TestStepOfManyFaults(t *testing.T) {
	place, none, state, full := 1, 2, 4, 8
	for faults := range 16 {
		archs := 9
		if faults&full != 0 {
			archs = 1
		}
		for _, far := range noPlaces(1) {
			for _, away := range notIn(five()) {
				w := newTwin(t, five(), archs, 2)
				w.make(t, 4, 7)
				i, id, add, want := 0, 9, true, api.OK
				if faults&full != 0 {
					want = api.ErrFull
				}
				if faults&state != 0 {
					add, want = false, api.ErrState
				}
				if faults&none != 0 {
					id, want = away, api.ErrNone
				}
				if faults&place != 0 {
					i, want = far, api.ErrRange
				}
				if _, e := w.step(t, i, id, add); e != want {
					t.Fatal(faults, i, id, add, e, want)
				}
				agree(t, w)
			}
		}
	}
}

// All ways between all sets of five components, from each table on, gone in
// some order, in each direction first.
func TestAllWays(t *testing.T) {
	ids := idsOf(five())
	for seed := range uint64(8) {
		dice := rand.New(rand.NewPCG(17, 10+seed))
		w := newTwin(t, five(), 32, 1)
		for _, n := range dice.Perm(32) {
			list := []int{}
			for i, id := range ids {
				if n>>i&1 == 1 {
					list = append(list, id)
				}
			}
			w.make(t, list...)
		}
		known := 0
		for _, n := range dice.Perm(32 * 5) {
			i, id := n/5, ids[n%5]
			add := !slices.Contains(w.a.sets[i], id)
			if !w.g.Knows(i, id, add) {
				known += 2
			}
			if _, e := w.step(t, i, id, add); e != api.OK || w.g.Ways() != known {
				t.Fatal(i, id, add, e, w.g.Ways(), known)
			}
			agree(t, w)
		}
		if known != 160 {
			t.Fatal(known)
		}
		agreeBeyond(t, w)
	}
}

// A way for which there is no room isn't known, nor the way back, and is gone
// as soon as there is its table.
func TestStepWithoutRoom(t *testing.T) {
	w := newTwin(t, whole(), 3, 1)
	w.make(t)
	w.step(t, 0, 24, true)
	w.step(t, 1, 1, true)
	for id := 2; id <= 23; id++ {
		for i := range 3 {
			if _, e := w.step(t, i, id, true); e != api.ErrFull {
				t.Fatal(i, id, e)
			}
		}
	}
	agreeBeyond(t, w)
	if _, e := w.step(t, 2, 24, false); e != api.ErrFull {
		t.Error(e)
	}
	if w.g.Ways() != 4 || w.g.Len() != 3 {
		t.Error(w.g.Ways(), w.g.Len())
	}
}

// P17.4

// deed does some one thing, a wrong one now and then.
func deed(t testing.TB, dice *rand.Rand, w twin) api.Errno {
	t.Helper()
	n := len(w.a.sets)
	ids := idsOf(w.a.s)
	switch k := dice.IntN(12); {
	case k == 0:
		list := []int{}
		for _, id := range ids {
			if dice.IntN(2) == 0 {
				list = append(list, id)
			}
		}
		return w.make(t, list...)
	case k == 1:
		list := bitsOf(sig.Sig(dice.Uint32() & dice.Uint32() & dice.Uint32()))
		return w.make(t, list...)
	case k == 2 && n > 0:
		w.visit(t, dice.IntN(n), api.Ent(1+dice.IntN(999)))
		return api.OK
	}
	i := dice.IntN(n+2) - dice.IntN(2)
	id := ids[dice.IntN(len(ids))]
	if dice.IntN(8) == 0 {
		wrong := notIn(w.a.s)
		id = wrong[dice.IntN(len(wrong))]
	}
	_, e := w.step(t, i, id, dice.IntN(2) == 0)
	return e
}

func TestManyDeeds(t *testing.T) {
	seen := map[api.Errno]int{}
	for seed := range uint64(60) {
		dice := rand.New(rand.NewPCG(17, 1000+seed))
		s := five()
		if seed%3 == 0 {
			s = whole()
		}
		w := newTwin(t, s, 1+dice.IntN(64), 1+dice.IntN(4))
		for range 100 {
			seen[deed(t, dice, w)]++
			agree(t, w)
		}
		agreeBeyond(t, w)
	}
	for _, e := range []api.Errno{api.OK, api.ErrRange, api.ErrNone, api.ErrState, api.ErrFull} {
		if seen[e] < 100 {
			t.Error("too few", e, seen)
		}
	}
}

// Whoever goes any way and back is where they were, and a way that is known
// leads where a graph leads in which nobody went it.
func TestThereAndBack(t *testing.T) {
	for seed := range uint64(40) {
		dice := rand.New(rand.NewPCG(17, 5000+seed))
		w := newTwin(t, five(), 40, 1)
		w.make(t, 4, 9)
		for range 60 {
			deed(t, dice, w)
		}
		for i := range w.a.sets {
			for _, id := range idsOf(five()) {
				add := !slices.Contains(w.a.sets[i], id)
				known := w.g.Knows(i, id, add)
				to, e := w.step(t, i, id, add)
				if e != api.OK {
					continue
				}
				if back, e := w.step(t, to, id, !add); back != i || e != api.OK {
					t.Fatal(i, id, add, known, back, e)
				}
				if again, e := w.step(t, i, id, add); again != to || e != api.OK {
					t.Fatal(i, id, add, known, again, e)
				}
			}
		}
		agreeBeyond(t, w)
	}
}

// In whatever order components are added, and removed, the end is the same
// table.
func TestWaysOfAllOrders(t *testing.T) {
	ids := idsOf(five())
	w := newTwin(t, five(), 32, 1)
	w.make(t)
	dice, end := rand.New(rand.NewPCG(17, 2)), -1
	for range 200 {
		at := 0
		for _, k := range dice.Perm(5) {
			at, _ = w.step(t, at, ids[k], true)
		}
		if end < 0 {
			end = at
		}
		if at != end {
			t.Fatal(at, end)
		}
		for _, k := range dice.Perm(5) {
			at, _ = w.step(t, at, ids[k], false)
		}
		if at != 0 {
			t.Fatal(at)
		}
	}
	agreeBeyond(t, w)
}

func FuzzDeeds(f *testing.F) {
	f.Add(uint8(3), uint8(31), uint64(1), uint8(40))
	f.Add(uint8(0), uint8(0), uint64(2), uint8(255))
	f.Add(uint8(255), uint8(18), uint64(3), uint8(100))
	f.Fuzz(func(t *testing.T, archs, rows uint8, seed uint64, deeds uint8) {
		dice := rand.New(rand.NewPCG(17, seed))
		s := five()
		if seed%2 == 0 {
			s = whole()
		}
		w := newTwin(t, s, 1+int(archs)%64, 1+int(rows))
		for range deeds {
			if dice.IntN(20) == 0 {
				w = w.clone(t)
			}
			deed(t, dice, w)
			agree(t, w)
		}
		agreeBeyond(t, w)
	})
}
