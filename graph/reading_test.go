package graph_test

import (
	"maps"
	"slices"
	"strconv"
	"strings"
	"testing"

	"retrofit/api"
	"retrofit/graph"
	"retrofit/schema"
	"retrofit/sig"
	"retrofit/table"
)

// A second reading of the chapter: an atlas of sets written as texts, in which
// a known way is a pair of these; and the schemas that the tests are made of.

const (
	maxInt = 1<<63 - 1
	minInt = -1 << 63
)

func comp(id int, name string, list ...api.Field) api.Comp {
	return api.Comp{Id: id, Name: name, Fields: list}
}

// five has components with and without fields, of the least and the greatest
// Id too.
func five() api.Schema {
	return api.Schema{Version: 3, Comps: []api.Comp{
		comp(1, "pos", api.Field{Name: "x", Kind: api.I32, Count: 2}, api.Field{Name: "y", Kind: api.Bool, Count: 1}),
		comp(4, "tag"),
		comp(7, "hp", api.Field{Name: "n", Kind: api.U8, Count: 1}),
		comp(9, "mark"),
		comp(24, "boss", api.Field{Name: "who", Kind: api.Ref, Count: 1}),
	}}
}

// whole has all components that there can be.
func whole() api.Schema {
	s := api.Schema{Version: 1}
	for id := 1; id <= 24; id++ {
		s.Comps = append(s.Comps, comp(id, "c"+strconv.Itoa(id)))
	}
	return s
}

// setOf has just these bits, whether they can be or not.
func setOf(ids ...int) sig.Sig {
	s := sig.Sig(0)
	for _, id := range ids {
		s |= 1 << id
	}
	return s
}

// bitsOf is the other way.
func bitsOf(s sig.Sig) []int {
	list := []int{}
	for bit := range 32 {
		if uint32(s)>>bit%2 == 1 {
			list = append(list, bit)
		}
	}
	return list
}

// wrote is a set as a text, by rising Ids.
func wrote(ids []int) string {
	ids = slices.Clone(ids)
	slices.Sort(ids)
	words := []string{}
	for _, id := range ids {
		words = append(words, strconv.Itoa(id))
	}
	return strings.Join(words, ",")
}

// noPlaces are numbers that no table of n has.
func noPlaces(n int) []int {
	return []int{-1, -2, -64, n, n + 1, n + 63, n + 64, n + 256, 1 << 16, 1 << 32, 1<<32 + 1, maxInt, minInt, minInt + 1}
}

// notIn are Ids that a schema hasn't, and numbers that are no Ids; shifts by
// some of them would come round to one.
func notIn(s api.Schema) []int {
	list := []int{0, -1, -4, -31, 25, 31, 32, 33, 36, 63, 64, 65, 68, 256 + 1, 1<<32 + 1, 1<<32 + 4, maxInt, minInt, minInt + 4}
	for id := 1; id <= 24; id++ {
		if !slices.Contains(idsOf(s), id) {
			list = append(list, id)
		}
	}
	return list
}

func idsOf(s api.Schema) []int {
	ids := []int{}
	for _, c := range s.Comps {
		ids = append(ids, c.Id)
	}
	return ids
}

// road is from one set to another one, both as texts.
type road struct{ from, to string }

type atlas struct {
	s           api.Schema
	archs, rows int
	sets        [][]int
	roads       map[road]bool
	// What was handed out as a set's table, and who was put there, so that
	// it can be told whether it is still that one.
	tables []*table.Table
	guests [][]api.Ent
}

func (a *atlas) find(ids []int) (int, bool) {
	for i, have := range a.sets {
		if wrote(have) == wrote(ids) {
			return i, true
		}
	}
	return 0, false
}

func (a *atlas) make(ids []int) (int, api.Errno) {
	if i, ok := a.find(ids); ok {
		return i, api.OK
	}
	for _, id := range ids {
		if !slices.Contains(idsOf(a.s), id) {
			return 0, api.ErrNone
		}
	}
	if len(a.sets) >= a.archs {
		return 0, api.ErrFull
	}
	a.sets = append(a.sets, slices.Clone(ids))
	return len(a.sets) - 1, api.OK
}

// beside is the set with a component, or without it; false: there is no such
// way from it.
func beside(ids []int, comp int, add bool) ([]int, bool) {
	at := slices.Index(ids, comp)
	switch {
	case add && at < 0:
		return append(slices.Clone(ids), comp), true
	case !add && at >= 0:
		return slices.Delete(slices.Clone(ids), at, at+1), true
	}
	return nil, false
}

func (a *atlas) step(i, comp int, add bool) (int, api.Errno) {
	if i < 0 || i >= len(a.sets) {
		return 0, api.ErrRange
	}
	if !slices.Contains(idsOf(a.s), comp) {
		return 0, api.ErrNone
	}
	ids, ok := beside(a.sets[i], comp, add)
	if !ok {
		return 0, api.ErrState
	}
	to, e := a.make(ids)
	if e == api.OK {
		here, there := wrote(a.sets[i]), wrote(ids)
		a.roads[road{here, there}] = true
		a.roads[road{there, here}] = true
	}
	return to, e
}

func (a *atlas) knows(i, comp int, add bool) bool {
	if i < 0 || i >= len(a.sets) {
		return false
	}
	ids, ok := beside(a.sets[i], comp, add)
	return ok && a.roads[road{wrote(a.sets[i]), wrote(ids)}]
}

// twin is a graph, and what it has to be.
type twin struct {
	g *graph.Graph
	a *atlas
}

func newTwin(t testing.TB, s api.Schema, archs, rows int) twin {
	t.Helper()
	w := twin{graph.New(s, archs, rows), &atlas{s: schema.Clone(s), archs: archs, rows: rows, roads: map[road]bool{}}}
	if w.g == nil {
		t.Fatal(archs, rows)
	}
	return w
}

// clone has tables of its own, with the same guests.
func (w twin) clone(t testing.TB) twin {
	t.Helper()
	b := *w.a
	b.sets = nil
	b.tables = nil
	b.guests = nil
	b.roads = maps.Clone(w.a.roads)
	h := w.g.Clone()
	if h == nil || h == w.g {
		t.Fatal("itself")
	}
	for i, ids := range w.a.sets {
		b.sets = append(b.sets, slices.Clone(ids))
		b.guests = append(b.guests, slices.Clone(w.a.guests[i]))
		b.tables = append(b.tables, h.Table(i))
		if b.tables[i] == nil || b.tables[i] == w.a.tables[i] {
			t.Fatal("shared", i)
		}
	}
	return twin{h, &b}
}

// settle takes note of a table that was made just now, and puts somebody there,
// if they can be without a value.
func (w twin) settle(t testing.TB) {
	t.Helper()
	for i := len(w.a.tables); i < len(w.a.sets); i++ {
		tab := w.g.Table(i)
		if tab == nil || tab.Len() != 0 || tab.Kept() != 0 || tab.Room() != w.a.rows {
			t.Fatal("no new table", i)
		}
		w.a.tables = append(w.a.tables, tab)
		w.a.guests = append(w.a.guests, nil)
		w.visit(t, i, api.Ent(1000+i))
	}
}

// visit puts somebody in a table, by the table itself.
func (w twin) visit(t testing.TB, i int, e api.Ent) {
	t.Helper()
	parts := []api.Part{}
	for _, id := range w.a.sets[i] {
		c, _ := schema.Find(w.a.s, id)
		n := 0
		for _, f := range c.Fields {
			n += f.Count
		}
		parts = append(parts, api.Part{Comp: id, Val: make([]api.Int, n)})
	}
	want := api.OK
	if len(w.a.guests[i]) >= w.a.rows {
		want = api.ErrFull
	} else {
		w.a.guests[i] = append(w.a.guests[i], e)
	}
	if _, err := w.g.Table(i).Add(e, parts); err != want {
		t.Fatal("Add", i, err, "not", want)
	}
}

// Each of these does something to both, and fails, unless both answer the same.

func (w twin) make(t testing.TB, ids ...int) api.Errno {
	t.Helper()
	got, e := w.g.Make(setOf(ids...))
	if want, wantErr := w.a.make(ids); got != want || e != wantErr {
		t.Fatal("Make", ids, got, e, "not", want, wantErr)
	}
	w.settle(t)
	return e
}

func (w twin) step(t testing.TB, i, comp int, add bool) (int, api.Errno) {
	t.Helper()
	got, e := w.g.Step(i, comp, add)
	want, wantErr := w.a.step(i, comp, add)
	if got != want || e != wantErr {
		t.Fatal("Step", i, comp, add, got, e, "not", want, wantErr)
	}
	w.settle(t)
	return got, e
}

// agree fails, unless a graph answers all that the atlas has.
func agree(t testing.TB, w twin) {
	t.Helper()
	g, a := w.g, w.a
	n := len(a.sets)
	if g.Len() != n || g.Room() != a.archs-n || g.Ways() != len(a.roads) {
		t.Fatal(g.Len(), g.Room(), g.Ways(), "not", n, a.archs-n, len(a.roads))
	}
	sigs := g.Sigs()
	if len(sigs) != n {
		t.Fatal(sigs)
	}
	for i, ids := range a.sets {
		if sigs[i] != setOf(ids...) || a.tables[i].Sig() != sigs[i] {
			t.Fatal(i, sigs[i], ids)
		}
		if at, ok := g.Find(sigs[i]); at != i || !ok {
			t.Fatal(i, at, ok)
		}
		if g.Table(i) != a.tables[i] || !slices.Equal(a.tables[i].Ents(), a.guests[i]) {
			t.Fatal("another table", i)
		}
		for _, id := range idsOf(a.s) {
			for _, add := range []bool{false, true} {
				if g.Knows(i, id, add) != a.knows(i, id, add) {
					t.Fatal("Knows", i, id, add)
				}
			}
		}
	}
}

// agreeBeyond asks for tables, sets and components that there aren't, too.
func agreeBeyond(t testing.TB, w twin) {
	t.Helper()
	n := len(w.a.sets)
	both := []bool{false, true}
	for _, i := range noPlaces(n) {
		if w.g.Table(i) != nil {
			t.Fatal(i)
		}
		for _, id := range append(notIn(w.a.s), idsOf(w.a.s)...) {
			for _, add := range both {
				isWrong(t, w.g, i, id, add, api.ErrRange)
			}
		}
	}
	for i, ids := range w.a.sets {
		for _, id := range notIn(w.a.s) {
			for _, add := range both {
				isWrong(t, w.g, i, id, add, api.ErrNone)
			}
		}
		for _, id := range idsOf(w.a.s) {
			isWrong(t, w.g, i, id, slices.Contains(ids, id), api.ErrState)
		}
	}
	for _, bit := range notIn(w.a.s) {
		if bit < 0 || bit > 31 {
			continue
		}
		for _, ids := range append(slices.Clone(w.a.sets), nil) {
			set := setOf(ids...) | 1<<bit
			if i, ok := w.g.Find(set); i != 0 || ok {
				t.Fatal("Find", set, i, ok)
			}
			if i, e := w.g.Make(set); i != 0 || e != api.ErrNone {
				t.Fatal("Make", set, i, e)
			}
		}
	}
	if !schema.Same(w.g.Schema(), w.a.s) {
		t.Fatal(w.g.Schema())
	}
	agree(t, w)
}

// isWrong fails, unless a way can't be gone, for that error, and isn't known.
func isWrong(t testing.TB, g *graph.Graph, i, id int, add bool, want api.Errno) {
	t.Helper()
	if to, e := g.Step(i, id, add); to != 0 || e != want {
		t.Fatal("Step", i, id, add, to, e, "not", want)
	}
	if g.Knows(i, id, add) {
		t.Fatal("Knows", i, id, add)
	}
}
