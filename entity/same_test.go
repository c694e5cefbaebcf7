package entity_test

import (
	"math/rand/v2"
	"slices"
	"testing"

	"retrofit/api"
	"retrofit/entity"
)

// made is an index to which this was done: a number above 0 ends who lives with
// that id, 0 spawns.
func made(t *testing.T, ids, gens int, deeds ...int) *entity.Index {
	t.Helper()
	x := entity.New(ids, gens)
	for _, id := range deeds {
		if id == 0 {
			if _, err := x.Spawn(); err != api.OK {
				t.Fatal(deeds, err)
			}
			continue
		}
		i := slices.IndexFunc(x.Live(), func(e api.Ent) bool { return entity.Id(e) == id })
		if i < 0 || x.Kill(x.Live()[i]) != api.OK {
			t.Fatal(deeds, id)
		}
	}
	return x
}

func TestSame(t *testing.T) {
	table := []struct {
		name string
		a, b *entity.Index
		want bool
	}{
		{"nils", nil, nil, true},
		{"a nil", entity.New(1, 1), nil, false},
		{"new ones", entity.New(7, 9), entity.New(7, 9), true},
		{"ids", entity.New(7, 9), entity.New(8, 9), false},
		{"ids, and the same who live", made(t, 2, 9, 0, 0), made(t, 3, 9, 0, 0), false},
		{"Gens", entity.New(7, 9), entity.New(7, 10), false},
		{"Gens, and the same who live", made(t, 2, 1, 0, 0), made(t, 2, 2, 0, 0), false},
		{"nobody, somebody", made(t, 2, 2), made(t, 2, 2, 0), false},
		{"a generation of nobody's", made(t, 2, 2), made(t, 2, 2, 0, 1), false},
		{"a generation of who lives", made(t, 2, 2, 0), made(t, 2, 2, 0, 1, 0), false},
		{"another one lives", made(t, 2, 9, 0, 0, 1), made(t, 2, 9, 0, 0, 2), false},
		{"free for the last time, retired", made(t, 1, 2, 0, 1), made(t, 1, 2, 0, 1, 0, 1), false},
		{"free at first, retired", made(t, 1, 1), made(t, 1, 1, 0, 1), false},
		{"retired ones", made(t, 2, 1, 0, 0, 1, 2), made(t, 2, 1, 0, 1, 0, 2), true},
		{"another way to the same", made(t, 3, 9, 0, 0, 0, 3, 1, 2), made(t, 3, 9, 0, 0, 0, 1, 2, 3), true},
		{"another way to somebody", made(t, 3, 9, 0, 0, 1), made(t, 3, 9, 0, 1, 0, 0, 1), false},
	}
	for _, c := range table {
		if entity.Same(c.a, c.b) != c.want || entity.Same(c.b, c.a) != c.want {
			t.Error(c.name, !c.want)
		}
		if !entity.Same(c.a, c.a) || !entity.Same(c.a, c.a.Clone()) || !entity.Same(c.b.Clone(), c.b) {
			t.Error(c.name, "itself")
		}
	}
}

// Two ways to the same answer the same ever after, whatever stands in which
// order inside.
func TestOrderOfEndsShowsNowhere(t *testing.T) {
	r := rand.New(rand.NewPCG(15, 3))
	for range 200 {
		ids := 2 + r.IntN(30)
		x, y := entity.New(ids, 3), entity.New(ids, 3)
		for range ids {
			x.Spawn()
			y.Spawn()
		}
		gone := r.Perm(ids)[:1+r.IntN(ids)]
		for _, i := range gone {
			x.Kill(entity.Of(i+1, 1))
		}
		slices.Sort(gone)
		for _, i := range gone {
			y.Kill(entity.Of(i+1, 1))
		}
		for range gone {
			a, _ := x.Spawn()
			b, _ := y.Spawn()
			if a != b || a == 0 || !entity.Same(x, y) || !entity.Same(x, x.Clone()) {
				t.Fatal(a, b)
			}
		}
	}
}

func TestCloneSharesNothing(t *testing.T) {
	for seed := range uint64(100) {
		r := rand.New(rand.NewPCG(15, 3000+seed))
		ids, gens := 1+r.IntN(6), 1+r.IntN(4)
		p := pair{entity.New(ids, gens), newBook(ids, gens)}
		for range r.IntN(20) {
			step(t, p.x, p.b, pick(r, p.b), r.IntN(2) > 0)
		}
		q := pair{p.x.Clone(), p.b.clone()}
		if !entity.Same(p.x, q.x) || p.x == q.x {
			t.Fatal("clone")
		}
		for range 40 {
			one, other := p, q
			if r.IntN(2) > 0 {
				one, other = q, p
			}
			step(t, one.x, one.b, pick(r, one.b), r.IntN(2) > 0)
			agree(t, one.x, one.b)
			agree(t, other.x, other.b)
			if entity.Same(one.x, other.x) != (one.b.text() == other.b.text()) {
				t.Fatal(one.b.text(), other.b.text())
			}
		}
		agreeNear(t, p.x, p.b)
		agreeNear(t, q.x, q.b)
	}
}
