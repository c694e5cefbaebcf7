package table_test

import (
	"math/rand/v2"
	"slices"
	"testing"

	"retrofit/api"
	"retrofit/schema"
	"retrofit/sig"
	"retrofit/table"
)

// P16.1

func TestNewBounds(t *testing.T) {
	for _, most := range []int{minInt, -1 << 32, -256, -2, -1, 0, 1, 2, 15, 16, 17, 255, 256, 257, 258, 512, 1 << 16, 1 << 32, 1<<32 + 1, 1<<32 + 256, maxInt} {
		for _, ids := range [][]int{nil, {1}, {4}, {1, 4, 7, 9, 24}} {
			tab := table.New(five(), setOf(ids...), most)
			if (tab != nil) != (most >= 1 && most <= 256) {
				t.Fatal(most, ids)
			}
			if tab != nil {
				agreeBeyond(t, tab, newSheet(five(), most, ids...))
			}
		}
	}
}

// All bits alone, and with another one, over schemas with all and with few.
func TestNewOfSets(t *testing.T) {
	for _, s := range []api.Schema{five(), whole(), {Version: 1}, {Version: 1 << 30, Comps: []api.Comp{comp(24, "last")}}} {
		can := func(set sig.Sig) bool {
			for bit := range 32 {
				if set&(1<<bit) != 0 && !slices.Contains(schema.Ids(s), bit) {
					return false
				}
			}
			return true
		}
		list := []sig.Sig{0, 1<<32 - 1, 1<<25 - 1, 1<<25 - 2, 1<<32 - 2}
		for a := range 32 {
			for b := range 32 {
				list = append(list, setOf(a, b), 1<<25-2&^setOf(a, b), setOf(1, 4, a, b))
			}
		}
		for _, set := range list {
			tab := table.New(s, set, 5)
			if (tab != nil) != can(set) {
				t.Fatal(set, len(s.Comps), tab != nil)
			}
			if tab != nil && (tab.Sig() != set || tab.Len() != 0 || tab.Kept() != 0 || tab.Room() != 5) {
				t.Fatal(set, tab.Sig(), tab.Len(), tab.Kept(), tab.Room())
			}
		}
	}
}

// A schema that can't be has no table, also not one of other components than
// those that are wrong.
func TestNewOfWrongSchemas(t *testing.T) {
	wrong := map[string]api.Schema{"nothing": {}}
	turned := func(name string, turn func(s *api.Schema)) {
		s := five()
		turn(&s)
		wrong[name] = s
	}
	turned("version 0", func(s *api.Schema) { s.Version = 0 })
	turned("version beyond", func(s *api.Schema) { s.Version = 1<<30 + 1 })
	turned("id 0", func(s *api.Schema) { s.Comps[0].Id = 0 })
	turned("id 25", func(s *api.Schema) { s.Comps[4].Id = 25 })
	turned("ids fall", func(s *api.Schema) { s.Comps[0], s.Comps[1] = s.Comps[1], s.Comps[0] })
	turned("id twice", func(s *api.Schema) { s.Comps[1].Id = 1 })
	turned("no name", func(s *api.Schema) { s.Comps[4].Name = "" })
	turned("name twice", func(s *api.Schema) { s.Comps[4].Name = "pos" })
	turned("field name twice", func(s *api.Schema) { s.Comps[4].Fields[1].Name = "who" })
	turned("no kind", func(s *api.Schema) { s.Comps[4].Fields[1].Kind = 11 })
	turned("count 0", func(s *api.Schema) { s.Comps[4].Fields[1].Count = 0 })
	turned("count 9", func(s *api.Schema) { s.Comps[4].Fields[1].Count = 9 })
	turned("a long row", func(s *api.Schema) { s.Comps[3].Fields = append(s.Comps[3].Fields, of("g", api.Bool, 1)) })
	turned("many comps", func(s *api.Schema) { s.Comps = slices.Repeat(s.Comps, 1000) })
	for name, s := range wrong {
		for _, set := range []sig.Sig{0, setOf(1), setOf(4), setOf(7), setOf(24), setOf(1, 4, 7, 9, 24), setOf(25), 1<<32 - 1} {
			if table.New(s, set, 3) != nil {
				t.Error(name, set)
			}
		}
	}
}

func TestNewKeepsNoSchema(t *testing.T) {
	s := five()
	room := s.Comps[0].Fields[:2]
	tab := table.New(s, setOf(1, 4, 24), 3)
	if !schema.Same(s, five()) {
		t.Fatal("changed", s)
	}
	s.Version = 0
	for i := range s.Comps {
		s.Comps[i].Id = 25 - i
		for k := range s.Comps[i].Fields {
			s.Comps[i].Fields[k] = of("", 0, 0)
		}
	}
	_ = append(room, of("z", api.Bool, 1))
	w := twin{tab, newSheet(five(), 3, 1, 4, 24)}
	w.filled(t, rand.New(rand.NewPCG(16, 1)), 3)
	agreeBeyond(t, w.tab, w.x)
}

func TestKeepByHand(t *testing.T) {
	tab := table.New(five(), setOf(4), 3)
	tag := []api.Part{part(4)}
	for i, x := range []struct {
		do               func() api.Errno
		want             api.Errno
		rows, kept, room int
	}{
		{tab.Yield, api.ErrNone, 0, 0, 3},
		{tab.Keep, api.OK, 0, 1, 2},
		{tab.Keep, api.OK, 0, 2, 1},
		{tab.Keep, api.OK, 0, 3, 0},
		{tab.Keep, api.ErrFull, 0, 3, 0},
		{func() api.Errno { _, e := tab.Add(9, tag); return e }, api.ErrFull, 0, 3, 0},
		{tab.Yield, api.OK, 0, 2, 1},
		{func() api.Errno { _, e := tab.Add(9, tag); return e }, api.OK, 1, 2, 0},
		{tab.Keep, api.ErrFull, 1, 2, 0},
		{func() api.Errno { _, e := tab.Add(8, tag); return e }, api.ErrFull, 1, 2, 0},
		{func() api.Errno { _, e := tab.Drop(0); return e }, api.OK, 0, 2, 1},
		{tab.Keep, api.OK, 0, 3, 0},
		{func() api.Errno { _, e := tab.Drop(0); return e }, api.ErrRange, 0, 3, 0},
		{tab.Yield, api.OK, 0, 2, 1},
		{tab.Yield, api.OK, 0, 1, 2},
		{tab.Yield, api.OK, 0, 0, 3},
		{tab.Yield, api.ErrNone, 0, 0, 3},
		{tab.Yield, api.ErrNone, 0, 0, 3},
	} {
		if e := x.do(); e != x.want || tab.Len() != x.rows || tab.Kept() != x.kept || tab.Room() != x.room {
			t.Fatal(i, e, tab.Len(), tab.Kept(), tab.Room())
		}
	}
}

// However many are kept, rows and kept places together are Cap at most.
func TestKeepOfAllRooms(t *testing.T) {
	dice := rand.New(rand.NewPCG(16, 2))
	for _, most := range []int{1, 2, 15, 16, 17, 18, 255, 256} {
		for _, rows := range []int{0, 1, most / 2, most - 1, most} {
			w := newTwin(t, five(), most, 7).filled(t, dice, min(rows, most))
			for range most + 2 {
				w.keep(t)
			}
			if w.tab.Room() != 0 || w.tab.Kept() != most-w.tab.Len() {
				t.Fatal(most, rows, w.tab.Room(), w.tab.Kept())
			}
			if e := w.add(t, 5, []api.Part{part(7, 1)}); e != api.ErrFull {
				t.Fatal(most, rows, e)
			}
			agreeBeyond(t, w.tab, w.x)
			for range most + 2 {
				w.yield(t)
			}
			if w.tab.Kept() != 0 || w.tab.Room() != most-w.tab.Len() {
				t.Fatal(most, rows, w.tab.Room(), w.tab.Kept())
			}
			agree(t, w.tab, w.x)
		}
	}
}

// P16.2

// The document's example.
func TestThreeRows(t *testing.T) {
	tab := table.New(five(), setOf(7), 3)
	for i := range 3 {
		if row, e := tab.Add(api.Ent(10+i), []api.Part{part(7, i)}); row != i || e != api.OK {
			t.Fatal(i, row, e)
		}
	}
	if e, err := tab.Drop(0); e != 12 || err != api.OK {
		t.Error(e, err)
	}
	if !slices.Equal(tab.Ents(), []api.Ent{12, 11}) {
		t.Error(tab.Ents())
	}
}

// In whatever order the parts come, the row is the same.
func TestAddOfAllOrders(t *testing.T) {
	parts := []api.Part{part(1, 200, -1<<31, 1<<31-1, 1), part(4), part(7, -128), part(24, maxInt, 65535)}
	n := 0
	var order func(done, left []api.Part)
	order = func(done, left []api.Part) {
		for i := range left {
			order(append(slices.Clone(done), left[i]), slices.Delete(slices.Clone(left), i, i+1))
		}
		if len(left) == 0 {
			n++
			w := newTwin(t, five(), 2, 1, 4, 7, 24)
			w.add(t, 77, done)
			if got, e := w.tab.Parts(0); e != api.OK || len(got) != 4 || !slices.EqualFunc(got, parts, samePart) {
				t.Fatal(got, e)
			}
			agree(t, w.tab, w.x)
		}
	}
	order(nil, parts)
	if n != 24 {
		t.Error(n)
	}
}

func samePart(a, b api.Part) bool { return a.Comp == b.Comp && slices.Equal(a.Val, b.Val) }

func TestAddOfEnts(t *testing.T) {
	w := newTwin(t, five(), 9)
	// A table asks of an entity no more than that it isn't 0.
	for _, e := range []api.Ent{1, 1 << 31, 1 << 32, 1<<32 + 1, 1<<32 + 1, 1<<63 + 5, maxWord} {
		if err := w.add(t, e, nil); err != api.OK {
			t.Error(e, err)
		}
	}
	if err := w.add(t, 0, nil); err != api.ErrArg {
		t.Error(err)
	}
	agreeBeyond(t, w.tab, w.x)
}

// The parts' components are just those of the set, each once.
func TestAddOfWrongComps(t *testing.T) {
	one, tag, hp, boss := part(1, 1, 2, 3, 1), part(4), part(7, 5), part(24, 1, 2)
	list := [][]api.Part{
		nil,
		{one},
		{tag},
		{hp},
		{one, tag},
		{one, hp},
		{tag, hp},
		{one, tag, hp, boss},
		{boss, one, tag, hp},
		{one, tag, boss},
		{boss},
		{one, tag, hp, hp},
		{one, one, tag, hp},
		{tag, one, tag, hp},
		{one, one, hp},
		{one, one, one},
		{tag, tag, tag},
		{one, tag, hp, one, tag, hp},
	}
	for _, id := range notIn([]int{1, 4, 7}) {
		for _, p := range []api.Part{part(id), part(id, 5), part(id, 1, 2, 3, 1)} {
			list = append(list, []api.Part{one, tag, hp, p}, []api.Part{p, one, tag, hp}, []api.Part{one, tag, p}, []api.Part{p, tag, hp}, []api.Part{one, p, hp}, []api.Part{p})
		}
	}
	list = append(list, slices.Repeat([]api.Part{one, tag, hp}, 1000), make([]api.Part, 3))
	w := newTwin(t, five(), 2, 1, 4, 7)
	for range 2 { // with room, and without
		for _, parts := range list {
			if e := w.add(t, 5, parts); e != api.ErrForm {
				t.Fatal(parts, e)
			}
		}
		agree(t, w.tab, w.x)
		w.add(t, 6, []api.Part{hp, one, tag})
		w.keep(t)
	}
	w = newTwin(t, five(), 2)
	for _, parts := range [][]api.Part{{one}, {tag}, {hp}, {part(0)}, {part(25)}, {tag, tag}} {
		if e := w.add(t, 5, parts); e != api.ErrForm {
			t.Fatal(parts, e)
		}
	}
}

// Of several faults the one is told that the document names first; each comes
// alone, and with all others.
func TestAddOfManyFaults(t *testing.T) {
	none, wrong, value, full := 1, 2, 4, 8
	for faults := range 16 {
		for _, bad := range []api.Part{part(1, 1, 2, 3), part(1, 1, 2, 3, 4, 5), part(1, 256, 0, 0, 0), part(1, 0, 0, 0, 2), {Comp: 1, Val: []api.Int{{}, {Neg: true}, {}, {}}}} {
			w := newTwin(t, five(), 1, 1, 4)
			e, parts, want := api.Ent(5), []api.Part{part(4), part(1, 1, 2, 3, 1)}, api.OK
			if faults&full != 0 {
				w.add(t, 4, parts)
				want = api.ErrFull
			}
			if faults&value != 0 {
				parts[1] = bad
				want = api.ErrRange
				if len(bad.Val) != 4 {
					want = api.ErrForm
				}
			}
			if faults&wrong != 0 {
				parts = append(parts, part(7, 1000))
				want = api.ErrForm
			}
			if faults&none != 0 {
				e, want = 0, api.ErrArg
			}
			if err := w.add(t, e, parts); err != want {
				t.Fatal(faults, bad, err, want)
			}
			agree(t, w.tab, w.x)
		}
	}
}

// Part by part, in the order in which they come, the first one that is wrong.
func TestAddOfFirstWrongPart(t *testing.T) {
	w := newTwin(t, five(), 3, 1, 4, 7, 24)
	good := map[int]api.Part{1: part(1, 1, 2, 3, 1), 4: part(4), 7: part(7, 5), 24: part(24, 1, 2)}
	bad := map[int][]api.Part{
		1:  {part(1), part(1, 1, 2, 3), part(1, -1, 0, 0, 0), part(1, 0, 0, 1<<31, 0)},
		4:  {part(4, 0)},
		7:  {part(7), part(7, 128), part(7, 128, 1), {Comp: 7, Val: []api.Int{{Hi: 1 << 63}}}},
		24: {part(24, 1), part(24, -1, 2), part(24, 1, 65536), part(24, 1, 2, 3)},
	}
	for _, order := range [][]int{{1, 4, 7, 24}, {24, 7, 4, 1}, {7, 1, 24, 4}, {4, 24, 1, 7}} {
		for i, first := range order {
			for _, one := range bad[first] {
				for _, second := range order[i+1:] {
					for _, other := range bad[second] {
						parts := []api.Part{good[order[0]], good[order[1]], good[order[2]], good[order[3]]}
						parts[i], parts[slices.Index(order, second)] = one, other
						if got, want := w.add(t, 5, parts), w.x.judge(one); got != want || got == api.OK {
							t.Fatal(parts, got, want)
						}
					}
				}
			}
		}
	}
	agreeBeyond(t, w.tab, w.x)
}

// Which row an Add that fails would have had isn't taken, and no column has a
// part of it.
func TestAddThatFailsLeavesNothing(t *testing.T) {
	dice := rand.New(rand.NewPCG(16, 3))
	for _, n := range []int{0, 1, 15, 16, 17, 31, 32} {
		w := newTwin(t, five(), 40, 1, 4, 7, 9, 24).filled(t, dice, n)
		for range 50 {
			parts := someParts(dice, w.x)
			i := dice.IntN(len(parts))
			parts[i].Val = spoil(dice, w.x.fields[parts[i].Comp], parts[i].Val)
			if e := w.add(t, 5, parts); e == api.OK {
				t.Fatal(parts)
			}
		}
		agree(t, w.tab, w.x)
		w.add(t, 6, someParts(dice, w.x))
		agreeBeyond(t, w.tab, w.x)
	}
}

func TestAddKeepsNoParts(t *testing.T) {
	w := newTwin(t, five(), 3, 1, 24)
	room := []api.Int{{Lo: 1}, {Lo: 2}, {Lo: 3}, {Lo: 1}, {Lo: 9}, {Lo: 9}}
	parts := append(make([]api.Part, 0, 5), part(24, 7, 8), api.Part{Comp: 1, Val: room[:4]})
	spare := append(parts, part(4, 9, 9))
	w.add(t, 5, parts)
	if parts[0].Comp != 24 || !slices.Equal(room, []api.Int{{Lo: 1}, {Lo: 2}, {Lo: 3}, {Lo: 1}, {Lo: 9}, {Lo: 9}}) || spare[2].Comp != 4 || len(spare[2].Val) != 2 {
		t.Fatal("changed", parts, room, spare)
	}
	clear(room)
	clear(parts[0].Val)
	clear(parts)
	agree(t, w.tab, w.x)
}

func TestDropOfEachRow(t *testing.T) {
	dice := rand.New(rand.NewPCG(16, 4))
	for _, n := range []int{1, 2, 3, 15, 16, 17, 18, 33} {
		for row := range n {
			w := newTwin(t, five(), 40, 1, 4, 24).filled(t, dice, n)
			w.keep(t)
			last := w.tab.Ent(n - 1)
			if row == n-1 {
				last = 0
			}
			if got, e := w.clone().tab.Drop(row); got != last || e != api.OK {
				t.Fatal(n, row, got, e)
			}
			w.drop(t, row)
			agree(t, w.tab, w.x)
			w.add(t, 5, someParts(dice, w.x))
			agree(t, w.tab, w.x)
		}
	}
}

func TestDropOfAllRows(t *testing.T) {
	dice := rand.New(rand.NewPCG(16, 5))
	for _, where := range []func(n int) int{func(int) int { return 0 }, func(n int) int { return n - 1 }, func(n int) int { return n / 2 }, dice.IntN} {
		for _, ids := range [][]int{nil, {4}, {1, 7, 24}} {
			w := newTwin(t, five(), 40, ids...).filled(t, dice, 40)
			if e := w.add(t, 5, someParts(dice, w.x)); e != api.ErrFull {
				t.Fatal(e)
			}
			for n := 40; n > 0; n-- {
				if e := w.drop(t, where(n)); e != api.OK {
					t.Fatal(n, e)
				}
				agree(t, w.tab, w.x)
			}
			agreeBeyond(t, w.tab, w.x)
			w.filled(t, dice, 40)
			agreeBeyond(t, w.tab, w.x)
		}
	}
}

// The limits: 256 rows, and 24 components of 256 bytes each.
func TestMostRows(t *testing.T) {
	dice := rand.New(rand.NewPCG(16, 6))
	all := []int{}
	for id := 1; id <= 24; id++ {
		all = append(all, id)
	}
	for _, ids := range [][]int{nil, {24}, all} {
		w := newTwin(t, whole(), 256, ids...).filled(t, dice, 256)
		if e := w.add(t, 5, someParts(dice, w.x)); e != api.ErrFull || w.keep(t) != api.ErrFull {
			t.Fatal(ids, e)
		}
		agree(t, w.tab, w.x)
		w.drop(t, 100)
		w.set(t, 100, api.Part{Comp: 24, Val: someValue(dice, w.x.fields[24])})
		if e := w.add(t, 6, someParts(dice, w.x)); e != api.OK || w.tab.Room() != 0 {
			t.Fatal(ids, e)
		}
		agreeBeyond(t, w.tab, w.x)
	}
}
