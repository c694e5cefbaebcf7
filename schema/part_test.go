package schema_test

import (
	"math/rand/v2"
	"reflect"
	"slices"
	"testing"

	"retrofit/api"
	"retrofit/layout"
	"retrofit/schema"
	"retrofit/wide"
)

func part(id int, list ...int) api.Part {
	p := api.Part{Comp: id}
	for _, n := range list {
		p.Val = append(p.Val, wide.Of(n))
	}
	return p
}

func parts(list ...api.Part) []api.Part { return list }

// odd is a schema that can't be, but has components.
func odd() api.Schema {
	return scheme(0,
		comp(9, "x", of("a", api.U8, 1)),
		comp(9, "y", of("a", api.U8, 2)),
		comp(-1, "", of("", api.Bool, 1), of("", api.Bool, 1)),
		comp(0, "x", of("a", 0, 1)),
		comp(maxInt, "x", long()...),
		comp(3, "x", many(9)...))
}

// P7.3

func TestPartByHand(t *testing.T) {
	for i, x := range []struct {
		s    api.Schema
		p    api.Part
		want api.Errno
	}{
		{three(), part(2, -1<<31, 1<<31-1, 1<<16-1, 1), api.OK},
		{three(), part(2, 0, 0, 0, 0), api.OK},
		{three(), part(5, 255, 0, 1, 2, 3, 4, 5, 6, maxInt), api.OK},
		{three(), part(24), api.OK},
		{three(), api.Part{Comp: 24, Val: []api.Int{}}, api.OK},

		{three(), part(1), api.ErrNone},
		{three(), part(1, 0, 0, 0, 0), api.ErrNone},
		{three(), part(0), api.ErrNone},
		{three(), part(-2, 0, 0, 0, 0), api.ErrNone},
		{three(), part(25), api.ErrNone},
		{three(), part(1<<32+2, 0, 0, 0, 0), api.ErrNone},
		{three(), part(maxInt), api.ErrNone},
		{three(), part(minInt), api.ErrNone},
		{api.Schema{}, part(0), api.ErrNone},

		{three(), part(2), api.ErrForm},
		{three(), part(2, 0, 0, 0), api.ErrForm},
		{three(), part(2, 0, 0, 0, 0, 0), api.ErrForm},
		{three(), part(2, maxInt, 0, 0), api.ErrForm},
		{three(), part(24, 0), api.ErrForm},
		{three(), api.Part{Comp: 5, Val: make([]api.Int, 1<<16)}, api.ErrForm},

		{three(), part(2, 1<<31, 0, 0, 0), api.ErrRange},
		{three(), part(2, 0, -1<<31-1, 0, 0), api.ErrRange},
		{three(), part(2, 0, 0, -1, 0), api.ErrRange},
		{three(), part(2, 0, 0, 0, 2), api.ErrRange},
		{three(), part(5, 256, 0, 0, 0, 0, 0, 0, 0, 0), api.ErrRange},
		{three(), api.Part{Comp: 2, Val: []api.Int{{Neg: true}, {}, {}, {}}}, api.ErrRange},
		{three(), api.Part{Comp: 2, Val: []api.Int{{Hi: 1 << 63}, {}, {}, {}}}, api.ErrRange},

		// It isn't asked whether the schema can be, but the fields must.
		{odd(), part(9, 255), api.OK},
		{odd(), part(9, 1, 2), api.ErrForm},
		{odd(), part(9, 256), api.ErrRange},
		{odd(), part(-1, 1, 0), api.OK},
		{odd(), part(0, 1), api.ErrArg},
		{odd(), part(0), api.ErrArg},
		{odd(), part(maxInt), api.ErrFull},
		{odd(), part(3), api.ErrArg},
		{odd(), part(4), api.ErrNone},
	} {
		if e := schema.CheckPart(x.s, x.p); e != x.want {
			t.Error(i, e)
		}
		// A part alone is as wrong as a list of it.
		if e := schema.CheckParts(x.s, parts(x.p)); e != x.want {
			t.Error(i, e)
		}
	}
}

func TestPartsByHand(t *testing.T) {
	good := []api.Part{part(24), part(2, 1, 2, 3, 1), part(5, 1, 0, 0, 0, 0, 0, 0, 0, 0)}
	for i, x := range []struct {
		s    api.Schema
		list []api.Part
		want api.Errno
	}{
		{three(), nil, api.OK},
		{three(), parts(), api.OK},
		{api.Schema{}, nil, api.OK},
		{odd(), nil, api.OK},
		{three(), good, api.OK},
		{three(), parts(good[2], good[1], good[0]), api.OK},
		{three(), good[1:2], api.OK},

		{three(), parts(good[0], good[0]), api.ErrArg},
		{three(), parts(good[0], good[1], good[0]), api.ErrArg},
		{three(), append(slices.Clone(good), good[2]), api.ErrArg},
		{three(), append(slices.Clone(good), good...), api.ErrArg},

		// The component is asked for ahead of the value, ...
		{three(), parts(good[0], part(24, 1)), api.ErrArg},
		{three(), parts(good[1], part(2)), api.ErrArg},
		{three(), parts(good[1], part(2, 1<<31, 0, 0, 0)), api.ErrArg},
		// ... but the first part that is wrong is told.
		{three(), parts(part(24, 1), part(24)), api.ErrForm},
		{three(), parts(part(2, 0, 0, 0, 2), good[1]), api.ErrRange},
		{three(), parts(part(1), part(1)), api.ErrNone},
		{three(), parts(part(1), good[0], good[0]), api.ErrNone},
		{three(), parts(good[0], part(1), good[0]), api.ErrNone},
		{three(), parts(good[0], good[0], part(1)), api.ErrArg},
		{three(), parts(good[0], part(2, 0), good[0]), api.ErrForm},
		{three(), parts(good[0], part(2, 0, 0, 0, 2), good[0], part(5)), api.ErrRange},
		{three(), parts(good[0], good[1], part(5)), api.ErrForm},
		{three(), parts(good[0], good[1], part(6)), api.ErrNone},

		{odd(), parts(part(9, 1), part(-1, 0, 0)), api.OK},
		{odd(), parts(part(9, 1), part(9, 1, 2)), api.ErrArg},
		{odd(), parts(part(9, 1), part(0), part(9)), api.ErrArg},
		{odd(), parts(part(9, 1), part(maxInt), part(0)), api.ErrFull},
		{api.Schema{}, parts(part(0), part(0)), api.ErrNone},
	} {
		if e := schema.CheckParts(x.s, x.list); e != x.want {
			t.Error(i, e)
		}
	}
}

func TestAllComponentsAsParts(t *testing.T) {
	s, list := api.Schema{Version: 1}, []api.Part{}
	for id := 1; id <= 24; id++ {
		s.Comps = append(s.Comps, comp(id, "c"+string(rune('a'+id-1)), of("x", api.I8, 1)))
		list = append(list, part(id, -id))
	}
	if e := schema.Check(s); e != api.OK {
		t.Fatal(e)
	}
	if e := schema.CheckParts(s, list); e != api.OK {
		t.Error(e)
	}
	slices.Reverse(list)
	if e := schema.CheckParts(s, list); e != api.OK {
		t.Error(e)
	}
	for i := range list {
		if e := schema.CheckParts(s, append(slices.Clone(list), list[i])); e != api.ErrArg {
			t.Error(i, e)
		}
		wrong := slices.Clone(list)
		wrong[i] = part(wrong[i].Comp, 128)
		if e := schema.CheckParts(s, wrong); e != api.ErrRange {
			t.Error(i, e)
		}
	}
	if e := schema.CheckParts(s, slices.Repeat(list, 10000)); e != api.ErrArg {
		t.Error(e)
	}
}

// partsChecked goes the way of P7.3's sentences.
func partsChecked(s api.Schema, list []api.Part) api.Errno {
	for i, p := range list {
		for _, o := range list[:i] {
			if o.Comp == p.Comp {
				return api.ErrArg
			}
		}
		at := slices.IndexFunc(s.Comps, func(c api.Comp) bool { return c.Id == p.Comp })
		if at < 0 {
			return api.ErrNone
		}
		if e := layout.Fit(s.Comps[at].Fields, p.Val); e != api.OK {
			return e
		}
	}
	return api.OK
}

func somePart(dice *rand.Rand, s api.Schema) api.Part {
	if len(s.Comps) == 0 || dice.IntN(20) == 0 {
		return part(dice.IntN(26), 0)
	}
	c := s.Comps[dice.IntN(len(s.Comps))]
	p := api.Part{Comp: c.Id, Val: layout.Zero(c.Fields)}
	for i := range p.Val {
		p.Val[i] = wide.Of(dice.IntN(2 + dice.IntN(50)/49*1000))
	}
	if dice.IntN(20) == 0 {
		p.Val = append(p.Val, api.Int{})
	}
	return p
}

func TestManyParts(t *testing.T) {
	dice := rand.New(rand.NewPCG(2, 7))
	seen := map[api.Errno]int{}
	for range 50000 {
		s := someSchema(dice)
		list := []api.Part{}
		for range dice.IntN(4) {
			list = append(list, somePart(dice, s))
		}
		want := partsChecked(s, list)
		seen[want]++
		if e := schema.CheckParts(s, list); e != want {
			t.Fatal(s, list, e, want)
		}
		for _, p := range list {
			if e := schema.CheckPart(s, p); e != partsChecked(s, parts(p)) {
				t.Fatal(s, p, e)
			}
		}
	}
	for _, e := range []api.Errno{api.OK, api.ErrArg, api.ErrForm, api.ErrRange, api.ErrFull, api.ErrNone} {
		if seen[e] < 100 {
			t.Error(e, seen)
		}
	}
}

func TestPartsStay(t *testing.T) {
	roomy := func() []api.Part {
		return parts(part(2, 1, 2, 3, 4), part(24), part(2, 5, 6, 7, 0), part(5, 8), part(9, 9))
	}
	list := roomy()
	schema.CheckParts(three(), list[1:3])
	schema.CheckPart(three(), list[0])
	schema.CheckPart(three(), api.Part{Comp: 5, Val: list[2].Val[:1]})
	if !reflect.DeepEqual(list, roomy()) {
		t.Error(list)
	}
}
