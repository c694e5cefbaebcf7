package graph_test

import (
	"math/rand/v2"
	"slices"
	"testing"

	"retrofit/api"
	"retrofit/graph"
	"retrofit/schema"
	"retrofit/sig"
	"retrofit/table"
)

// P17.1

func TestNewBounds(t *testing.T) {
	list := []int{minInt, -1 << 32, -64, -2, -1, 0, 1, 2, 63, 64, 65, 66, 128, 255, 256, 257, 258, 512, 1 << 16, 1 << 32, 1<<32 + 1, 1<<32 + 64, maxInt}
	for _, archs := range list {
		for _, rows := range list {
			g := graph.New(five(), archs, rows)
			if (g != nil) != (archs >= 1 && archs <= 64 && rows >= 1 && rows <= 256) {
				t.Fatal(archs, rows, g != nil)
			}
			if g != nil && (g.Len() != 0 || g.Room() != archs || g.Ways() != 0 || len(g.Sigs()) != 0) {
				t.Fatal(archs, rows, g.Len(), g.Room(), g.Ways(), g.Sigs())
			}
		}
	}
	agreeBeyond(t, newTwin(t, five(), 1, 1))
	agreeBeyond(t, newTwin(t, five(), 64, 256))
	agreeBeyond(t, newTwin(t, api.Schema{Version: 1 << 30}, 64, 256))
}

func TestNewOfWrongSchemas(t *testing.T) {
	wrong := map[string]api.Schema{"nothing": {}}
	turned := func(name string, turn func(s *api.Schema)) {
		s := five()
		turn(&s)
		wrong[name] = s
	}
	turned("version 0", func(s *api.Schema) { s.Version = 0 })
	turned("version beyond", func(s *api.Schema) { s.Version = 1<<30 + 1 })
	turned("id 0", func(s *api.Schema) { s.Comps[0].Id = 0 })
	turned("id 25", func(s *api.Schema) { s.Comps[4].Id = 25 })
	turned("ids fall", func(s *api.Schema) { s.Comps[0], s.Comps[1] = s.Comps[1], s.Comps[0] })
	turned("id twice", func(s *api.Schema) { s.Comps[1].Id = 1 })
	turned("no name", func(s *api.Schema) { s.Comps[4].Name = "" })
	turned("name twice", func(s *api.Schema) { s.Comps[4].Name = "pos" })
	turned("field name twice", func(s *api.Schema) { s.Comps[0].Fields[1].Name = "x" })
	turned("no kind", func(s *api.Schema) { s.Comps[0].Fields[1].Kind = 11 })
	turned("count 0", func(s *api.Schema) { s.Comps[0].Fields[1].Count = 0 })
	turned("count 9", func(s *api.Schema) { s.Comps[0].Fields[1].Count = 9 })
	turned("many comps", func(s *api.Schema) { s.Comps = slices.Repeat(s.Comps, 1000) })
	for name, s := range wrong {
		if graph.New(s, 3, 3) != nil {
			t.Error(name)
		}
	}
}

func TestNewKeepsNoSchema(t *testing.T) {
	s := five()
	room := s.Comps[0].Fields[:1]
	w := newTwin(t, s, 40, 3)
	if !schema.Same(s, five()) {
		t.Fatal("changed", s)
	}
	s.Version = 0
	for i := range s.Comps {
		s.Comps[i].Id = 25 - i
		for k := range s.Comps[i].Fields {
			s.Comps[i].Fields[k] = api.Field{}
		}
	}
	_ = append(room, api.Field{Name: "z"})
	w.make(t, 1, 4, 24)
	w.make(t, 7)
	w.step(t, 1, 1, true)
	agreeBeyond(t, w)
}

func TestMakeByHand(t *testing.T) {
	g := graph.New(five(), 3, 2)
	for i, x := range []struct {
		set       sig.Sig
		at        int
		want      api.Errno
		len, room int
	}{
		{setOf(24), 0, api.OK, 1, 2},
		{setOf(2), 0, api.ErrNone, 1, 2},
		{setOf(), 1, api.OK, 2, 1},
		{setOf(24), 0, api.OK, 2, 1},
		{setOf(24, 25), 0, api.ErrNone, 2, 1},
		{setOf(1, 24), 2, api.OK, 3, 0},
		// One that there is can be told of a full graph, too; ...
		{setOf(1, 24), 2, api.OK, 3, 0},
		{setOf(), 1, api.OK, 3, 0},
		{setOf(24), 0, api.OK, 3, 0},
		// ... that there can be none such is told ahead of that there is no room.
		{setOf(1), 0, api.ErrFull, 3, 0},
		{setOf(1, 4, 7, 9, 24), 0, api.ErrFull, 3, 0},
		{setOf(1, 2), 0, api.ErrNone, 3, 0},
		{setOf(0), 0, api.ErrNone, 3, 0},
		{setOf(1, 24, 0), 0, api.ErrNone, 3, 0},
		{setOf(31), 0, api.ErrNone, 3, 0},
		{1<<32 - 1, 0, api.ErrNone, 3, 0},
	} {
		if at, e := g.Make(x.set); at != x.at || e != x.want || g.Len() != x.len || g.Room() != x.room {
			t.Error(i, at, e, g.Len(), g.Room())
		}
		if at, ok := g.Find(x.set); ok != (x.want == api.OK) || at != x.at {
			t.Error(i, at, ok)
		}
	}
	if !slices.Equal(g.Sigs(), []sig.Sig{setOf(24), setOf(), setOf(1, 24)}) || g.Ways() != 0 {
		t.Error(g.Sigs(), g.Ways())
	}
}

// All bits alone, and with another one, over schemas with all and with few.
func TestMakeOfSets(t *testing.T) {
	list := []sig.Sig{0, 1<<32 - 1, 1<<25 - 1, 1<<25 - 2, 1<<32 - 2}
	for a := range 32 {
		for b := range 32 {
			list = append(list, setOf(a, b), 1<<25-2&^setOf(a, b), setOf(1, 4, a, b))
		}
	}
	for _, s := range []api.Schema{five(), whole(), {Version: 1}, {Version: 1 << 30, Comps: []api.Comp{comp(24, "last")}}} {
		for _, set := range list {
			w := newTwin(t, s, 2, 1)
			first := w.make(t, bitsOf(set)...)
			if again := w.make(t, bitsOf(set)...); again != first {
				t.Fatal(set, first, again)
			}
			agree(t, w)
		}
	}
}

// In whatever order the sets come, they stand in that one.
func TestMakeOfAllSets(t *testing.T) {
	dice := rand.New(rand.NewPCG(17, 1))
	for range 20 {
		w := newTwin(t, five(), 1+dice.IntN(40), 1+dice.IntN(3))
		for _, n := range dice.Perm(32) {
			ids := []int{}
			for i, id := range []int{1, 4, 7, 9, 24} {
				if n>>i&1 == 1 {
					ids = append(ids, id)
				}
			}
			w.make(t, ids...)
			agree(t, w)
		}
		agreeBeyond(t, w)
	}
}

// The limits: 64 tables, of up to 24 components and 256 rows each.
func TestMostTables(t *testing.T) {
	for _, archs := range []int{1, 2, 63, 64} {
		w := newTwin(t, whole(), archs, 256)
		ids := []int{}
		for id := 1; id <= 24; id++ {
			ids = append(ids, id)
		}
		for n := range archs {
			list := []int{n%24 + 1, (n/24+n)%24 + 1}
			slices.Sort(list)
			if e := w.make(t, slices.Compact(list)...); e != api.OK {
				t.Fatal(n, e)
			}
		}
		if w.g.Room() != 0 {
			t.Fatal(archs, w.g.Room())
		}
		if e := w.make(t, ids...); e != api.ErrFull {
			t.Fatal(archs, e)
		}
		agreeBeyond(t, w)
	}
}

// Each table has room for Rows rows, each of its own.
func TestRowsOfTables(t *testing.T) {
	for _, rows := range []int{1, 2, 16, 255, 256} {
		w := newTwin(t, five(), 3, rows)
		for _, ids := range [][]int{{4}, {}, {1, 7, 24}} {
			w.make(t, ids...)
		}
		for n := range rows + 2 {
			for i := range 3 {
				w.visit(t, i, api.Ent(5000+n))
			}
		}
		for i := range 3 {
			if w.g.Table(i).Room() != 0 || w.g.Table(i).Len() != rows {
				t.Error(rows, i, w.g.Table(i).Len())
			}
		}
		agree(t, w)
	}
}

func TestFindMakesNothing(t *testing.T) {
	w := newTwin(t, five(), 5, 5)
	for range 2 {
		for _, set := range []sig.Sig{0, setOf(1), setOf(4, 24), setOf(2), 1<<32 - 1} {
			if i, ok := w.g.Find(set); i != 0 || ok {
				t.Error(set, i, ok)
			}
		}
	}
	agreeBeyond(t, w)
}

// P17.3

func TestTableItself(t *testing.T) {
	w := newTwin(t, five(), 4, 3)
	w.make(t, 4)
	w.make(t, 4, 9)
	tab := w.g.Table(1)
	row, e := tab.Add(7, []api.Part{{Comp: 9}, {Comp: 4}})
	if row != 1 || e != api.OK || w.g.Table(1).Ent(1) != 7 || w.g.Table(0).Len() != 1 {
		t.Error(row, e, w.g.Table(1).Ents(), w.g.Table(0).Ents())
	}
	w.g.Table(0).Keep()
	if w.g.Table(0).Kept() != 1 || tab.Kept() != 0 {
		t.Error(w.g.Table(0).Kept(), tab.Kept())
	}
	// It is the same one, however many are made behind it.
	w.make(t)
	w.step(t, 0, 1, true)
	tab.Drop(1)
	if w.g.Table(1) != tab || w.g.Table(1).Len() != 1 {
		t.Error("another table")
	}
}

// Rule 3: what is answered is new memory.
func TestAnswersAreNew(t *testing.T) {
	w := newTwin(t, five(), 9, 2)
	w.make(t, 4)
	w.step(t, 0, 9, true)
	w.step(t, 1, 4, false)
	sigs := w.g.Sigs()
	was := slices.Clone(sigs)
	s := w.g.Schema()
	w.step(t, 2, 24, true)
	if !slices.Equal(sigs, was) {
		t.Error(sigs)
	}
	clear(sigs[:cap(sigs)])
	for i := range s.Comps {
		list := s.Comps[i].Fields
		clear(list[:cap(list)])
	}
	clear(s.Comps[:cap(s.Comps)])
	agreeBeyond(t, w)
	w.step(t, 3, 1, true)
	agreeBeyond(t, w)
}

func TestNil(t *testing.T) {
	var g *graph.Graph
	for _, i := range append(noPlaces(0), 0) {
		for _, id := range append(notIn(five()), 1, 4, 24) {
			isWrong(t, g, i, id, true, api.ErrNil)
			isWrong(t, g, i, id, false, api.ErrNil)
		}
		if g.Table(i) != nil {
			t.Error(i)
		}
	}
	for _, set := range []sig.Sig{0, setOf(1), 1<<32 - 1} {
		if i, e := g.Make(set); i != 0 || e != api.ErrNil {
			t.Error(set, i, e)
		}
		if i, ok := g.Find(set); i != 0 || ok {
			t.Error(set, i, ok)
		}
	}
	if s := g.Schema(); s.Version != 0 || len(s.Comps) != 0 {
		t.Error(s)
	}
	if g.Len() != 0 || g.Room() != 0 || g.Ways() != 0 || len(g.Sigs()) != 0 || g.Clone() != nil {
		t.Error("nil")
	}
}

func TestCloneSharesNothing(t *testing.T) {
	for seed := range uint64(60) {
		dice := rand.New(rand.NewPCG(17, 100+seed))
		p := newTwin(t, five(), 3+dice.IntN(30), 1+dice.IntN(9))
		for range dice.IntN(30) {
			deed(t, dice, p)
		}
		q := p.clone(t)
		agreeBeyond(t, q)
		for range 60 {
			one := p
			if dice.IntN(2) == 0 {
				one = q
			}
			deed(t, dice, one)
			agree(t, p)
			agree(t, q)
		}
		r := q.clone(t)
		agreeBeyond(t, p)
		agreeBeyond(t, r)
	}
}

// Both grow into the room that a list has left.
func TestClonesGrowApart(t *testing.T) {
	for _, n := range []int{0, 1, 2, 3, 5, 8, 20} {
		p := newTwin(t, whole(), 64, 2)
		for i := range n {
			p.make(t, i+1)
		}
		q := p.clone(t)
		for i := range 4 {
			p.make(t, i+1, 24)
			q.make(t, i+1, 23)
		}
		p.step(t, 0, 22, true)
		q.step(t, 0, 21, true)
		agreeBeyond(t, p)
		agreeBeyond(t, q)
	}
}

// What a clone's tables have is as it was: values, and rows that are kept free.
func TestCloneOfRows(t *testing.T) {
	g := graph.New(five(), 2, 3)
	g.Make(setOf(7))
	hp := func(n uint64) api.Part { return api.Part{Comp: 7, Val: []api.Int{{Lo: n}}} }
	g.Table(0).Add(5, []api.Part{hp(1)})
	g.Table(0).Keep()
	h := g.Clone()
	g.Table(0).Set(0, hp(2))
	g.Table(0).Yield()
	h.Table(0).Add(6, []api.Part{hp(3)})
	has := func(tab *table.Table, kept int, ents []api.Ent, first uint64) {
		t.Helper()
		val, e := tab.Get(0, 7)
		if tab.Kept() != kept || !slices.Equal(tab.Ents(), ents) || e != api.OK || val[0].Lo != first {
			t.Error(tab.Kept(), tab.Ents(), val, e)
		}
	}
	has(g.Table(0), 0, []api.Ent{5}, 2)
	has(h.Table(0), 1, []api.Ent{5, 6}, 1)
	if h.Table(0).Room() != 0 || h.Room() != 1 || h.Table(1) != nil {
		t.Error(h.Table(0).Room(), h.Room())
	}
}
