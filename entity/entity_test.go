package entity_test

import (
	"math/rand/v2"
	"slices"
	"testing"

	"retrofit/api"
	"retrofit/entity"
)

// P15.1

func TestNewBounds(t *testing.T) {
	ids := []int{minInt, -1 << 32, -256, -1, 0, 1, 2, 255, 256, 257, 512, 1 << 16, 1<<32 + 1, 1<<32 + 256, maxInt}
	gens := []int{minInt, -1 << 32, -65535, -1, 0, 1, 2, 65534, 65535, 65536, 65537, 1 << 17, 1<<32 + 1, 1<<32 + 65535, maxInt}
	for _, i := range ids {
		for _, g := range gens {
			can := i >= 1 && i <= 256 && g >= 1 && g <= 65535
			x := entity.New(i, g)
			if (x != nil) != can {
				t.Fatal(i, g, x)
			}
			if can && (x.Free() != i || x.Count() != 0 || len(x.Live()) != 0 || x.Next() != 1<<32+1) {
				t.Fatal(i, g, x.Free(), x.Count(), x.Live(), x.Next())
			}
		}
	}
}

func TestOf(t *testing.T) {
	numbers := []int{1, 2, 3, 255, 256, 257, 65535, 65536, 1<<31 - 1, 1 << 31, 1<<31 + 1, 1<<32 - 2, 1<<32 - 1}
	for _, id := range numbers {
		for _, gen := range numbers {
			e := entity.Of(id, gen)
			if e != (who{id, gen}).number() || entity.Id(e) != id || entity.Gen(e) != gen {
				t.Fatal(id, gen, e, entity.Id(e), entity.Gen(e))
			}
		}
	}
	r := rand.New(rand.NewPCG(15, 1))
	for range 10000 {
		id, gen := 1+r.IntN(1<<32-1), 1+r.IntN(1<<32-1)
		e := entity.Of(id, gen)
		if e != (who{id, gen}).number() || entity.Id(e) != id || entity.Gen(e) != gen {
			t.Fatal(id, gen, e)
		}
	}
}

func TestOfWrong(t *testing.T) {
	wrong := []int{0, -1, -2, -1 << 31, -1 << 32, minInt, minInt + 1, 1 << 32, 1<<32 + 1, 1 << 33, 1<<33 + 1, 1 << 62, maxInt}
	for _, w := range wrong {
		for _, n := range []int{1, 2, 1<<32 - 1, 0, -1, 1 << 32, maxInt, minInt} {
			if e := entity.Of(w, n); e != 0 {
				t.Error("id", w, n, e)
			}
			if e := entity.Of(n, w); e != 0 {
				t.Error("gen", n, w, e)
			}
		}
	}
}

// A number is made of two halves, a handle's or not.
func TestHalves(t *testing.T) {
	table := []struct {
		e       api.Ent
		id, gen int
	}{
		{0, 0, 0},
		{5, 5, 0},
		{1<<32 - 1, 1<<32 - 1, 0},
		{1 << 32, 0, 1},
		{1<<32 + 1, 1, 1},
		{2<<32 + 1, 1, 2},
		{1 << 63, 0, 1 << 31},
		{1<<64 - 1, 1<<32 - 1, 1<<32 - 1},
	}
	for _, c := range table {
		if entity.Id(c.e) != c.id || entity.Gen(c.e) != c.gen {
			t.Error(c, entity.Id(c.e), entity.Gen(c.e))
		}
	}
}

// P15.2

// The document's example.
func TestTwoIdsOfOneGeneration(t *testing.T) {
	x := entity.New(2, 1)
	a, e1 := x.Spawn()
	b, e2 := x.Spawn()
	if a != 1<<32+1 || b != 1<<32+2 || e1 != api.OK || e2 != api.OK {
		t.Fatal(a, b, e1, e2)
	}
	if err := x.Kill(a); err != api.OK {
		t.Fatal(err)
	}
	if e, err := x.Spawn(); e != 0 || err != api.ErrFull {
		t.Error(e, err)
	}
	if x.Free() != 0 || x.Next() != 0 || x.Count() != 1 || !slices.Equal(x.Live(), []api.Ent{b}) {
		t.Error(x.Free(), x.Next(), x.Count(), x.Live())
	}
}

func TestSomebodyEnds(t *testing.T) {
	x := entity.New(3, 2)
	for range 3 {
		x.Spawn()
	}
	table := []struct {
		kill api.Ent
		err  api.Errno
		next api.Ent
		free int
	}{
		{entity.Of(3, 1), api.OK, entity.Of(3, 2), 1},
		{entity.Of(3, 1), api.ErrStale, entity.Of(3, 2), 1},
		{entity.Of(3, 2), api.ErrStale, entity.Of(3, 2), 1}, // nobody lives with it yet
		{entity.Of(1, 1), api.OK, entity.Of(1, 2), 2},
		{entity.Of(2, 1), api.OK, entity.Of(1, 2), 3},
		{0, api.ErrStale, entity.Of(1, 2), 3},
	}
	for i, c := range table {
		if err := x.Kill(c.kill); err != c.err || x.Next() != c.next || x.Free() != c.free {
			t.Fatal(i, err, x.Next(), x.Free())
		}
	}
	for id := 1; id <= 3; id++ {
		if e, err := x.Spawn(); e != entity.Of(id, 2) || err != api.OK {
			t.Fatal(id, e, err)
		}
	}
	for id := 3; id >= 1; id-- { // each of them ends for the last time
		if err := x.Kill(entity.Of(id, 2)); err != api.OK || x.Free() != 0 || x.Next() != 0 || x.Count() != id-1 {
			t.Fatal(id, err, x.Free(), x.Next(), x.Count())
		}
	}
	if e, err := x.Spawn(); e != 0 || err != api.ErrFull {
		t.Error(e, err)
	}
}

// Whichever way ids came free, the least one is next.
func TestLeastIdIsNext(t *testing.T) {
	r := rand.New(rand.NewPCG(15, 2))
	for range 200 {
		ids := 1 + r.IntN(256)
		x := entity.New(ids, 2)
		for range ids {
			x.Spawn()
		}
		freed := r.Perm(ids)[:r.IntN(ids+1)]
		for _, i := range freed {
			if err := x.Kill(entity.Of(i+1, 1)); err != api.OK {
				t.Fatal(i, err)
			}
		}
		slices.Sort(freed)
		for _, i := range freed {
			next := x.Next()
			if e, err := x.Spawn(); e != entity.Of(i+1, 2) || e != next || err != api.OK {
				t.Fatal(i, e, next, err)
			}
		}
		if _, err := x.Spawn(); err != api.ErrFull {
			t.Fatal(err)
		}
	}
}

func TestManySteps(t *testing.T) {
	seen := map[api.Errno]int{}
	for seed := range uint64(300) {
		r := rand.New(rand.NewPCG(15, 100+seed))
		ids, gens := 1+r.IntN(6), 1+r.IntN(4)
		x, b := entity.New(ids, gens), newBook(ids, gens)
		many := 1 + r.IntN(4)
		for range 60 {
			_, err := step(t, x, b, pick(r, b), r.IntN(many+1) > 0)
			seen[err]++
			agree(t, x, b)
		}
		agreeNear(t, x, b)
	}
	for _, err := range []api.Errno{api.OK, api.ErrFull, api.ErrStale} {
		if seen[err] < 500 {
			t.Error("too few", err, seen)
		}
	}
}

func TestManyIds(t *testing.T) {
	for seed := range uint64(4) {
		r := rand.New(rand.NewPCG(15, 1000+seed))
		ids, gens := 256-r.IntN(3), 1+r.IntN(3)
		x, b := entity.New(ids, gens), newBook(ids, gens)
		for i := range 2000 {
			// More come at first, more end later.
			step(t, x, b, pick(r, b), r.IntN(2000) > i)
			if i%50 == 0 {
				agree(t, x, b)
			}
		}
		agreeNear(t, x, b)
	}
}

func TestNil(t *testing.T) {
	var x *entity.Index
	for _, e := range []api.Ent{0, 1, 1<<32 + 1, 1<<64 - 1} {
		if err := x.Kill(e); err != api.ErrNil {
			t.Error(err)
		}
		if x.Alive(e) {
			t.Error(e)
		}
	}
	if e, err := x.Spawn(); e != 0 || err != api.ErrNil {
		t.Error(e, err)
	}
	if len(x.Live()) != 0 || x.Count() != 0 || x.Free() != 0 || x.Next() != 0 || x.Clone() != nil {
		t.Error(x.Live(), x.Count(), x.Free(), x.Next(), x.Clone())
	}
}

// Rule 3: an answer is new memory.
func TestLiveIsNew(t *testing.T) {
	x := entity.New(3, 1)
	for range 3 {
		x.Spawn()
	}
	want := slices.Clone(x.Live())
	got := x.Live()
	for i := range got {
		got[i] = 0
	}
	got = append(got[:0], 7, 7, 7)
	if !slices.Equal(x.Live(), want) || len(got) != 3 {
		t.Error(x.Live(), want)
	}
}

// P15.3

// All generations of an id, to the last one.
func TestAllGenerations(t *testing.T) {
	x := entity.New(1, 65535)
	for gen := 1; gen <= 65535; gen++ {
		want := api.Ent(gen)<<32 + 1
		if e, err := x.Spawn(); e != want || err != api.OK || !x.Alive(e) || x.Count() != 1 || x.Free() != 0 {
			t.Fatal(gen, e, err)
		}
		if _, err := x.Spawn(); err != api.ErrFull {
			t.Fatal(gen, err)
		}
		if err := x.Kill(want); err != api.OK || x.Alive(want) || x.Count() != 0 {
			t.Fatal(gen, err)
		}
	}
	if e, err := x.Spawn(); e != 0 || err != api.ErrFull || x.Free() != 0 || x.Next() != 0 {
		t.Error(e, err, x.Free(), x.Next())
	}
	for gen := range 65538 {
		e := api.Ent(gen)<<32 + 1
		if x.Alive(e) || x.Kill(e) != api.ErrStale {
			t.Fatal(gen)
		}
	}
}

// An index has as many handles as ids and generations, and none twice; who
// ended doesn't come back.
func TestNoHandleTwice(t *testing.T) {
	for seed := range uint64(100) {
		r := rand.New(rand.NewPCG(15, 2000+seed))
		ids, gens := 1+r.IntN(12), 1+r.IntN(9)
		x := entity.New(ids, gens)
		met, ended := map[api.Ent]bool{}, map[api.Ent]bool{}
		for x.Free() > 0 || x.Count() > 0 {
			if live := x.Live(); len(live) > 0 && (r.IntN(2) == 0 || x.Free() == 0) {
				e := live[r.IntN(len(live))]
				if err := x.Kill(e); err != api.OK {
					t.Fatal(e, err)
				}
				ended[e] = true
			} else {
				e, err := x.Spawn()
				if err != api.OK || met[e] || entity.Id(e) > ids || entity.Gen(e) > gens {
					t.Fatal(e, err, met[e])
				}
				met[e] = true
			}
			for e := range ended {
				if x.Alive(e) {
					t.Fatal("lives again", e)
				}
			}
		}
		if len(met) != ids*gens || len(ended) != ids*gens {
			t.Fatal(ids, gens, len(met), len(ended))
		}
	}
}

// From the first state of a few ids on, all states that there can be: some ids
// that were somebody's already, and behind them those that never were.
func TestAllStates(t *testing.T) {
	for _, c := range [][2]int{{1, 1}, {2, 1}, {1, 3}, {2, 2}, {3, 2}, {4, 1}} {
		ids, gens := c[0], c[1]
		seen := map[string]pair{}
		list := []pair{{entity.New(ids, gens), newBook(ids, gens)}}
		for ; len(list) > 0; list = list[1:] {
			p := list[0]
			if _, ok := seen[p.b.text()]; !ok {
				agreeNear(t, p.x, p.b)
				list = append(list, p.after(t)...)
			}
			for text, q := range seen {
				want := text == p.b.text()
				if entity.Same(p.x, q.x) != want || entity.Same(q.x, p.x) != want {
					t.Fatal(text, p.b.text(), !want)
				}
			}
			seen[p.b.text()] = p
		}
		want, power := 0, 1
		for range ids + 1 {
			want, power = want+power, power*2*gens
		}
		if len(seen) != want {
			t.Error(ids, gens, len(seen), want)
		}
		for _, p := range seen { // what was done to clones has left them as they were
			agreeNear(t, p.x, p.b)
		}
	}
}

func FuzzSteps(f *testing.F) {
	f.Add(uint8(2), uint16(1), []byte{0, 0, 1, 0})
	f.Add(uint8(255), uint16(65534), []byte{0, 0, 0, 3, 1, 2, 0, 0})
	f.Fuzz(func(t *testing.T, i uint8, g uint16, steps []byte) {
		ids, gens := 1+int(i), 1+int(g)
		x := entity.New(ids, gens)
		if (x == nil) != (gens > 65535) {
			t.Fatal(ids, gens)
		}
		if x == nil {
			return
		}
		b := newBook(ids, gens)
		for _, s := range steps[:min(len(steps), 60)] {
			e := who{int(s) / 4 % (ids + 1), 1 + int(s)%3}.number()
			step(t, x, b, e, s%4 == 0)
			agree(t, x, b)
		}
		y := x.Clone()
		if !entity.Same(x, y) {
			t.Fatal("clone")
		}
		step(t, y, b, 0, true)
		agree(t, y, b)
	})
}
