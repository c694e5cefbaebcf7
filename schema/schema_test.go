package schema_test

import (
	"math/rand/v2"
	"reflect"
	"slices"
	"strconv"
	"strings"
	"testing"

	"retrofit/api"
	"retrofit/layout"
	"retrofit/schema"
)

const (
	maxInt = 1<<63 - 1
	minInt = -1 << 63
)

func of(name string, k api.Kind, n int) api.Field { return api.Field{Name: name, Kind: k, Count: n} }

func fields(list ...api.Field) []api.Field { return list }

func comp(id int, name string, list ...api.Field) api.Comp {
	return api.Comp{Id: id, Name: name, Fields: list}
}

func scheme(version int, list ...api.Comp) api.Schema {
	return api.Schema{Version: version, Comps: list}
}

// body, team and tag are three components that can be.
func body() api.Comp {
	return comp(2, "body", of("pos", api.I32, 2), of("mass", api.U16, 1), of("solid", api.Bool, 1))
}

func team() api.Comp { return comp(5, "team", of("id", api.U8, 1), of("pos", api.Ref, 8)) }

func tag() api.Comp { return comp(24, "tag") }

func three() api.Schema { return scheme(7, body(), team(), tag()) }

// long has a row of 264 bytes.
func long() []api.Field {
	list := []api.Field{}
	for _, name := range []string{"a", "b", "c", "d"} {
		list = append(list, of(name, api.U64, 8))
	}
	return append(list, of("e", api.Bool, 1))
}

// many are n fields of 1 byte, named f0 and so on.
func many(n int) []api.Field {
	list := []api.Field{}
	for i := range n {
		list = append(list, of("f"+strconv.Itoa(i), api.U8, 1))
	}
	return list
}

// kept is the same schema with room behind all its lists, and tells whether
// they and their room are still as they were.
func kept(s api.Schema) (api.Schema, func() bool) {
	comps := []api.Comp{}
	for _, c := range s.Comps {
		list := append(slices.Clone(c.Fields), of("room", 99, 99), of("more", 98, 98))
		comps = append(comps, comp(c.Id, c.Name, list[:len(c.Fields)]...))
	}
	comps = append(comps, comp(77, "room", of("room", 97, 97)), comp(78, "more"))
	given := scheme(s.Version, comps[:len(s.Comps)]...)
	was := withRoom(given)
	return given, func() bool { return reflect.DeepEqual(withRoom(given), was) }
}

// withRoom copies a schema with all that its lists have room for.
func withRoom(s api.Schema) api.Schema {
	comps := []api.Comp{}
	for _, c := range s.Comps[:cap(s.Comps)] {
		comps = append(comps, comp(c.Id, c.Name, slices.Clone(c.Fields[:cap(c.Fields)])...))
	}
	return scheme(s.Version, comps...)
}

// P7.1

func TestNames(t *testing.T) {
	for s, want := range map[string]bool{
		"":                false,
		"a":               true,
		"z":               true,
		"pos":             true,
		"a1":              true,
		"a0b9z":           true,
		"abcdefghijkl":    true,
		"a12345678901":    true,
		"abcdefghijklm":   false,
		"a123456789012":   false,
		"0":               false,
		"9a":              false,
		"A":               false,
		"aB":              false,
		"Ab":              false,
		"a b":             false,
		" a":              false,
		"a ":              false,
		"a\n":             false,
		"a\x00":           false,
		"\x00":            false,
		"a_b":             false,
		"a-b":             false,
		"a.b":             false,
		"_":               false,
		"\u00e4":          false,
		"a\u00e4":         false,
		"a\u0660":         false, // a digit, but none of 0 to 9
		"a\xff":           false,
		"\xe1":            false,
		"\u0161":          false, // its rune ends in the byte of a letter
		"abcdefghijk\x0e": false,
	} {
		if schema.IsName(s) != want {
			t.Errorf("%q", s)
		}
	}
}

func TestNamesByteByByte(t *testing.T) {
	const letters, digits = "abcdefghijklmnopqrstuvwxyz", "0123456789"
	for n := 1; n <= 14; n++ {
		for at := range n {
			for b := range 256 {
				s := []byte(strings.Repeat("m", n))
				s[at] = byte(b)
				want := n <= 12 && (strings.IndexByte(letters, byte(b)) >= 0 || at > 0 && strings.IndexByte(digits, byte(b)) >= 0)
				if schema.IsName(string(s)) != want {
					t.Fatalf("%q", s)
				}
			}
		}
	}
	if schema.IsName(strings.Repeat("a", 1<<20)) || schema.IsName(strings.Repeat("a", 256)) || schema.IsName(strings.Repeat("a", 257)) {
		t.Error("long")
	}
}

func TestSchemasThatCanBe(t *testing.T) {
	all := []api.Comp{}
	for id := 1; id <= 24; id++ {
		all = append(all, comp(id, "c"+strconv.Itoa(id), many(id%9)...))
	}
	for i, s := range []api.Schema{
		three(),
		scheme(1),
		scheme(1 << 30),
		{Version: 2, Comps: []api.Comp{}},
		scheme(1, comp(1, "a")),
		scheme(1, comp(24, "a")),
		scheme(1, comp(1, "a"), comp(24, "b")),
		scheme(1, comp(3, "b"), comp(4, "a")),
		scheme(1, comp(1, "abcdefghijkl", of("a12345678901", api.I8, 8))),
		scheme(1, comp(1, "a", long()[:4]...)),
		scheme(1, comp(1, "a", many(8)...)),
		// Names are apart in a component alone, and apart from components'.
		scheme(1, comp(1, "a", of("a", api.U8, 1), of("b", api.U8, 1)), comp(2, "b", of("a", api.U8, 1), of("b", api.U8, 1))),
		scheme(1, comp(1, "a", of("a", api.U8, 1), of("aa", api.U8, 1))),
		scheme(1, all...),
	} {
		if e := schema.Check(s); e != api.OK {
			t.Error(i, e)
		}
	}
}

func TestVersionsThatCantBe(t *testing.T) {
	for _, v := range []int{0, -1, 1<<30 + 1, 1 << 31, 1 << 32, 1<<32 + 1, -1 << 30, maxInt, minInt} {
		for _, list := range [][]api.Comp{nil, {body()}, {comp(0, "")}, {comp(1, "")}, {comp(1, "a", long()...)}} {
			if e := schema.Check(scheme(v, list...)); e != api.ErrArg {
				t.Error(v, list, e)
			}
		}
	}
}

func TestIdsThatCantBe(t *testing.T) {
	for _, id := range []int{0, -1, -24, 25, 26, 32, 64, 256, 257, 1<<32 + 1, maxInt, minInt} {
		// The Id is asked for first, ahead of the names and the fields.
		for _, c := range []api.Comp{comp(id, "a"), comp(id, ""), comp(id, "A", of("", 0, 0)), comp(id, "a", long()...)} {
			for _, list := range [][]api.Comp{{c}, {c, comp(24, "b")}, {comp(3, "b"), c}, {comp(3, "a"), c}, {c, c}} {
				if e := schema.Check(scheme(1, list...)); e != api.ErrArg {
					t.Error(list, e)
				}
			}
		}
	}
	for i, list := range [][]api.Comp{
		{comp(2, "a"), comp(1, "b")},
		{comp(2, "a"), comp(2, "b")},
		{comp(2, "a"), comp(2, "a")},
		{comp(24, "a"), comp(24, "b")},
		{comp(24, "a"), comp(1, "")},
		{comp(1, "a"), comp(3, "b"), comp(2, "c")},
		{comp(1, "a"), comp(3, "b"), comp(1, "c")},
		{comp(1, "a"), comp(2, "b"), comp(3, "c"), comp(3, "d")},
	} {
		if e := schema.Check(scheme(1, list...)); e != api.ErrArg {
			t.Error(i, e)
		}
	}
	all := make([]api.Comp, 100000)
	for i := range all {
		all[i] = comp(i+1, "c"+strconv.Itoa(i))
	}
	if e := schema.Check(scheme(1, all...)); e != api.ErrArg {
		t.Error(e)
	}
	if e := schema.Check(scheme(1, all[:24]...)); e != api.OK {
		t.Error(e)
	}
	if e := schema.Check(scheme(1, all[:25]...)); e != api.ErrArg {
		t.Error(e)
	}
}

// wrongNames are texts that are no names.
func wrongNames() []string {
	return []string{"", "A", "1a", "a_", "a b", "abcdefghijklm", "\x00", "a\xff", "\u00e4", strings.Repeat("a", 300)}
}

func TestComponentsWithoutNames(t *testing.T) {
	for _, name := range wrongNames() {
		// The name is asked for ahead of the fields.
		for _, c := range []api.Comp{comp(3, name), comp(3, name, many(2)...), comp(3, name, of("x", 0, 0)), comp(3, name, long()...)} {
			for _, list := range [][]api.Comp{{c}, {comp(1, "a"), c}, {c, comp(4, "a")}, {c, comp(2, "a")}, {c, comp(0, "")}} {
				if e := schema.Check(scheme(1, list...)); e != api.ErrForm {
					t.Error(list, e)
				}
			}
		}
	}
	for i, list := range [][]api.Comp{
		{comp(1, "a"), comp(2, "a")},
		{comp(1, "a"), comp(2, "b"), comp(3, "a")},
		{comp(1, "a"), comp(2, "b"), comp(3, "b")},
		{comp(1, "a"), comp(2, "a", long()...)},
		{comp(1, "a"), comp(2, "a", of("x", 0, 0))},
		{comp(1, "a"), comp(2, "a"), comp(1, "b")},
	} {
		if e := schema.Check(scheme(1, list...)); e != api.ErrForm {
			t.Error(i, e)
		}
	}
}

func TestFieldsWithoutNames(t *testing.T) {
	lists := [][]api.Field{
		{of("a", api.U8, 1), of("a", api.U8, 1)},
		{of("a", api.U8, 1), of("a", api.I64, 2)},
		{of("a", api.U8, 1), of("b", api.U8, 1), of("a", api.U8, 1)},
		{of("a", 0, 0), of("a", 0, 0)},
		{of("a", 99, 1), of("b", api.U8, 9), of("", api.U8, 1)},
		append(long(), of("e", api.U8, 1)),
		append(long(), of("", api.U8, 1)),
		append(many(8), of("f7", api.U8, 1)),
		append(many(9), of("f0", api.U8, 1)),
		append(many(100000), of("f0", api.U8, 1)),
		append(many(100000), of("f", 0, 0), of("F", 0, 0)),
	}
	for _, name := range wrongNames() {
		lists = append(lists, fields(of(name, api.U8, 1)), fields(of("a", api.U8, 1), of(name, api.U8, 1)), fields(of(name, 0, 0), of("a", api.U8, 1)))
	}
	for i, list := range lists {
		for _, s := range []api.Schema{
			scheme(1, comp(1, "x", list...)),
			scheme(1, comp(1, "x"), comp(2, "y", list...)),
			scheme(1, comp(1, "x", list...), comp(1, "x")),
			scheme(1, comp(1, "x", list...), comp(2, "y", of("x", 0, 0))),
		} {
			if e := schema.Check(s); e != api.ErrForm {
				t.Error(i, e)
			}
		}
	}
}

func TestFieldsThatCantBeLaidOut(t *testing.T) {
	for i, x := range []struct {
		list []api.Field
		want api.Errno
	}{
		{long(), api.ErrFull},
		{many(9), api.ErrArg},
		{many(100000), api.ErrArg},
		{fields(of("a", 0, 1)), api.ErrArg},
		{fields(of("a", 11, 1)), api.ErrArg},
		{fields(of("a", -1, 1)), api.ErrArg},
		{fields(of("a", maxInt, 1)), api.ErrArg},
		{fields(of("a", api.U8, 0)), api.ErrArg},
		{fields(of("a", api.U8, 9)), api.ErrArg},
		{fields(of("a", api.U8, minInt)), api.ErrArg},
		{fields(of("a", api.U8, 1), of("b", 0, 0)), api.ErrArg},
		{append(long(), of("f", 0, 1)), api.ErrArg},
	} {
		for _, s := range []api.Schema{
			scheme(1, comp(1, "x", x.list...)),
			scheme(1, comp(1, "x"), comp(2, "y", x.list...)),
			// What is wrong later isn't told.
			scheme(1, comp(1, "x", x.list...), comp(1, "x")),
			scheme(1, comp(1, "x", x.list...), comp(2, "", many(2)...)),
			scheme(1, comp(1, "x", x.list...), comp(2, "y", of("", api.U8, 1))),
			scheme(1, comp(1, "x", x.list...), comp(2, "y", long()...)),
		} {
			if e := schema.Check(s); e != x.want {
				t.Error(i, e)
			}
		}
	}
}

// faults spoil the component at a place; in a component the one that comes
// earlier here is told.
var faults = []struct {
	want  api.Errno
	spoil func(s api.Schema, i int)
}{
	{api.ErrArg, func(s api.Schema, i int) { s.Comps[i].Id = 25 }},
	{api.ErrForm, func(s api.Schema, i int) { s.Comps[i].Name = "No" }},
	{api.ErrForm, func(s api.Schema, i int) { s.Comps[i].Fields[1].Name = s.Comps[i].Fields[0].Name }},
	{api.ErrArg, func(s api.Schema, i int) { s.Comps[i].Fields[0].Kind = 0 }},
	{api.ErrFull, func(s api.Schema, i int) {
		for j := range 5 {
			s.Comps[i].Fields[j].Kind, s.Comps[i].Fields[j].Count = api.I64, 8
		}
	}},
}

func TestFirstFaultIsTold(t *testing.T) {
	const comps, kinds = 3, 5
	for set := range 1 << (comps * kinds) {
		s := api.Schema{Version: 1}
		for i := range comps {
			s.Comps = append(s.Comps, comp(i+1, "c"+strconv.Itoa(i), many(8)...))
		}
		want := api.OK
		for i := range comps {
			for j := range kinds {
				if set>>(i*kinds+j)&1 == 0 {
					continue
				}
				if want == api.OK {
					want = faults[j].want
				}
				// The last fault would mend the one ahead of it.
				if j < kinds-1 || set>>(i*kinds+j-1)&1 == 0 {
					faults[j].spoil(s, i)
				}
			}
		}
		if e := schema.Check(s); e != want {
			t.Fatal(set, e, want)
		}
	}
}

// P7.2

func TestFind(t *testing.T) {
	s := three()
	for id, want := range map[int]api.Comp{2: body(), 5: team(), 24: tag()} {
		if c, is := schema.Find(s, id); !is || !schema.SameComp(c, want) {
			t.Error(id, c)
		}
	}
	for _, id := range []int{0, 1, 3, 4, 6, 23, 25, -2, 1<<32 + 2, maxInt, minInt} {
		if c, is := schema.Find(s, id); is || !reflect.DeepEqual(c, api.Comp{}) {
			t.Error(id, c)
		}
	}
	if c, is := schema.Find(api.Schema{}, 0); is || !reflect.DeepEqual(c, api.Comp{}) {
		t.Error(c)
	}
}

func TestNamed(t *testing.T) {
	s := three()
	for name, want := range map[string]api.Comp{"body": body(), "team": team(), "tag": tag()} {
		if c, is := schema.Named(s, name); !is || !schema.SameComp(c, want) {
			t.Error(name, c)
		}
	}
	for _, name := range []string{"", "bod", "bodyy", "Body", "pos", "ta", "tags", "body\x00", " tag"} {
		if c, is := schema.Named(s, name); is || !reflect.DeepEqual(c, api.Comp{}) {
			t.Error(name, c)
		}
	}
	if c, is := schema.Named(api.Schema{}, ""); is || !reflect.DeepEqual(c, api.Comp{}) {
		t.Error(c)
	}
}

func TestFieldNamed(t *testing.T) {
	for name, want := range map[string]int{"pos": 0, "mass": 1, "solid": 2} {
		if i, is := schema.FieldNamed(body(), name); !is || i != want {
			t.Error(name, i)
		}
	}
	for _, name := range []string{"", "body", "po", "poss", "Pos", "id"} {
		if i, is := schema.FieldNamed(body(), name); is || i != 0 {
			t.Error(name, i)
		}
	}
	if i, is := schema.FieldNamed(api.Comp{}, ""); is || i != 0 {
		t.Error(i)
	}
}

// Schemas that can't be are looked through all the same.
func TestFirstOnesAreFound(t *testing.T) {
	s := scheme(0, comp(9, "", many(1)...), comp(-3, "No", many(2)...), comp(9, "No", many(3)...), comp(-3, "", many(4)...), comp(0, "x", many(5)...))
	for i, x := range []struct {
		find func() (api.Comp, bool)
		want int
	}{
		{func() (api.Comp, bool) { return schema.Find(s, 9) }, 0},
		{func() (api.Comp, bool) { return schema.Find(s, -3) }, 1},
		{func() (api.Comp, bool) { return schema.Find(s, 0) }, 4},
		{func() (api.Comp, bool) { return schema.Named(s, "") }, 0},
		{func() (api.Comp, bool) { return schema.Named(s, "No") }, 1},
		{func() (api.Comp, bool) { return schema.Named(s, "x") }, 4},
	} {
		if c, is := x.find(); !is || !schema.SameComp(c, s.Comps[x.want]) {
			t.Error(i, c)
		}
	}
	c := comp(0, "", of("x", 1, 1), of("", 2, 2), of("x", 3, 3), of("", 4, 4), of("No", 5, 5))
	for name, want := range map[string]int{"x": 0, "": 1, "No": 4} {
		if i, is := schema.FieldNamed(c, name); !is || i != want {
			t.Error(name, i)
		}
	}
	if !slices.Equal(schema.Ids(s), []int{9, -3, 9, -3, 0}) {
		t.Error(schema.Ids(s))
	}
}

func TestIds(t *testing.T) {
	if ids := schema.Ids(three()); !slices.Equal(ids, []int{2, 5, 24}) {
		t.Error(ids)
	}
	if ids := schema.Ids(scheme(3)); len(ids) != 0 {
		t.Error(ids)
	}
	if ids := schema.Ids(scheme(3, comp(maxInt, ""), comp(minInt, ""))); !slices.Equal(ids, []int{maxInt, minInt}) {
		t.Error(ids)
	}
}

// changes each make another schema of three.
var changes = []func(s *api.Schema){
	func(s *api.Schema) { s.Version = 8 },
	func(s *api.Schema) { s.Version = -7 },
	func(s *api.Schema) { s.Comps[0].Id = 1 },
	func(s *api.Schema) { s.Comps[2].Id = 23 },
	func(s *api.Schema) { s.Comps[0].Name = "bodi" },
	func(s *api.Schema) { s.Comps[2].Name = "" },
	func(s *api.Schema) { s.Comps[0].Fields[0].Name = "p" },
	func(s *api.Schema) { s.Comps[0].Fields[0].Kind = api.U32 },
	func(s *api.Schema) { s.Comps[1].Fields[1].Count = 7 },
	func(s *api.Schema) { s.Comps[1].Fields = s.Comps[1].Fields[:1] },
	func(s *api.Schema) { s.Comps[1].Fields = nil },
	func(s *api.Schema) { s.Comps[2].Fields = many(1) },
	func(s *api.Schema) { f := s.Comps[0].Fields; f[0], f[1] = f[1], f[0] },
	func(s *api.Schema) { s.Comps[0], s.Comps[1] = s.Comps[1], s.Comps[0] },
	func(s *api.Schema) { s.Comps = s.Comps[:2] },
	func(s *api.Schema) { s.Comps = s.Comps[1:] },
	func(s *api.Schema) { s.Comps = nil },
	func(s *api.Schema) { s.Comps = append(s.Comps, api.Comp{}) },
	func(s *api.Schema) { s.Comps[2] = s.Comps[1] },
}

func TestSame(t *testing.T) {
	if !schema.Same(three(), three()) || !schema.Same(api.Schema{}, api.Schema{}) {
		t.Error("not the same")
	}
	for i, change := range changes {
		a := three()
		change(&a)
		if schema.Same(a, three()) || schema.Same(three(), a) || !schema.Same(a, a) {
			t.Error(i)
		}
		for j, other := range changes {
			b := three()
			other(&b)
			if schema.Same(a, b) != (i == j) {
				t.Error(i, j)
			}
		}
	}
}

func TestSameComp(t *testing.T) {
	list := []api.Comp{
		{},
		body(),
		team(),
		tag(),
		comp(23, "tag"),
		comp(24, "tags"),
		comp(24, "tag", of("", 0, 0)),
		comp(24, "tag", of("x", 0, 0)),
		comp(24, "tag", of("", 1, 0)),
		comp(24, "tag", of("", 0, 1)),
		comp(24, "tag", of("", 0, 0), of("", 0, 1)),
		comp(24, "tag", of("", 0, 1), of("", 0, 0)),
		comp(24, "tag", of("", 0, 0), of("", 0, 0)),
	}
	for i, a := range list {
		for j, b := range list {
			if schema.SameComp(a, b) != (i == j) {
				t.Error(i, j)
			}
		}
	}
}

func TestNothingIsTheSameAsNil(t *testing.T) {
	if !schema.SameComp(api.Comp{Id: 1}, api.Comp{Id: 1, Fields: []api.Field{}}) {
		t.Error("fields")
	}
	if !schema.Same(api.Schema{Version: 1, Comps: []api.Comp{}}, api.Schema{Version: 1}) {
		t.Error("components")
	}
	room := make([]api.Comp, 0, 4)
	if !schema.Same(api.Schema{Comps: room}, api.Schema{Comps: nil}) {
		t.Error("room")
	}
}

func TestClone(t *testing.T) {
	for i, s := range []api.Schema{
		three(),
		{},
		scheme(1),
		scheme(maxInt, comp(minInt, "No", of("", -1, maxInt)), api.Comp{}, api.Comp{}),
		{Comps: []api.Comp{}},
	} {
		if c := schema.Clone(s); !schema.Same(c, s) || !schema.Same(s, c) {
			t.Error(i, c)
		}
	}
}

// P7.4

// spoil turns all that a schema's lists hold.
func spoil(s api.Schema) {
	for i, c := range s.Comps[:cap(s.Comps)] {
		spoilComp(c)
		s.Comps[:cap(s.Comps)][i] = comp(99, "spoilt")
	}
}

func spoilComp(c api.Comp) {
	for j := range c.Fields[:cap(c.Fields)] {
		c.Fields[:cap(c.Fields)][j] = of("spoilt", 99, 99)
	}
}

func TestClonesGoApart(t *testing.T) {
	for i, change := range changes {
		s := three()
		c := schema.Clone(s)
		change(&c)
		if !schema.Same(s, three()) {
			t.Error(i, s)
		}
		c = schema.Clone(s)
		change(&s)
		if !schema.Same(c, three()) {
			t.Error(i, c)
		}
	}
	s, stays := kept(three())
	c := schema.Clone(s)
	d := schema.Clone(s)
	spoil(c)
	if !stays() || !schema.Same(s, three()) || !schema.Same(d, three()) {
		t.Error("shared")
	}
	spoil(s)
	if !schema.Same(d, three()) {
		t.Error("kept")
	}
}

func TestComponentsOfACloneGoApart(t *testing.T) {
	list := many(3)
	s := scheme(1, comp(1, "a", list...), comp(2, "b", list...), comp(3, "c", list[:1]...))
	c := schema.Clone(s)
	spoilComp(c.Comps[0])
	if !schema.SameComp(c.Comps[1], s.Comps[1]) || !schema.SameComp(c.Comps[2], s.Comps[2]) {
		t.Error(c)
	}
}

func TestWhatIsFoundIsNew(t *testing.T) {
	s, stays := kept(three())
	for range 2 {
		for _, id := range schema.Ids(s) {
			byId, is := schema.Find(s, id)
			byName, also := schema.Named(s, byId.Name)
			if !is || !also || !schema.SameComp(byId, byName) {
				t.Error(id, byId, byName)
			}
			spoilComp(byId)
			if is, _ := schema.Find(s, id); !schema.SameComp(is, byName) {
				t.Error(id)
			}
			spoilComp(byName)
		}
		schema.Ids(s)[0] = 99
	}
	if !stays() || !schema.Same(s, three()) {
		t.Error(s)
	}
}

func TestWhatIsFoundIsNotKept(t *testing.T) {
	s := three()
	byId, _ := schema.Find(s, 2)
	byName, _ := schema.Named(s, "team")
	ids := schema.Ids(s)
	spoil(s)
	if !schema.SameComp(byId, body()) || !schema.SameComp(byName, team()) || !slices.Equal(ids, []int{2, 5, 24}) {
		t.Error(byId, byName, ids)
	}
}

func TestSchemasStay(t *testing.T) {
	s, stays := kept(three())
	o, alsoStays := kept(three())
	schema.Check(s)
	schema.Find(s, 5)
	schema.Named(s, "team")
	schema.FieldNamed(s.Comps[0], "solid")
	schema.Ids(s)
	schema.Same(s, o)
	schema.SameComp(s.Comps[0], o.Comps[1])
	schema.Clone(s)
	schema.CheckPart(s, api.Part{Comp: 5})
	schema.CheckParts(s, []api.Part{{Comp: 24}, {Comp: 5}})
	if !stays() || !alsoStays() {
		t.Error(s, o)
	}
}

// someSchema is made of few names, ids and fields, so that they meet often.
func someSchema(dice *rand.Rand) api.Schema {
	names := []string{"a", "b", "c9", "abcdefghijkl", "", "A", "9", "abcdefghijklm"}
	name := func(wrong int) string {
		if dice.IntN(wrong) == 0 {
			return names[4+dice.IntN(4)]
		}
		return names[dice.IntN(4)]
	}
	s := api.Schema{Version: 1 + dice.IntN(3)}
	if dice.IntN(30) == 0 {
		s.Version = []int{0, -1, 1<<30 + 1, minInt}[dice.IntN(4)]
	}
	id := dice.IntN(30) / 29
	for range dice.IntN(4) {
		id += 1 + dice.IntN(8) - dice.IntN(20)/19*8
		c := comp(id, name(30))
		for range dice.IntN(4) {
			f := of(name(30), api.Kind(1+dice.IntN(10)), 1+dice.IntN(8))
			if dice.IntN(40) == 0 {
				f.Kind, f.Count = api.Kind(dice.IntN(13)-1), dice.IntN(11)-1
			}
			c.Fields = append(c.Fields, f)
		}
		if dice.IntN(20) == 0 {
			c.Fields = append(c.Fields, many(dice.IntN(10))...)
		}
		if dice.IntN(20) == 0 {
			c.Fields = append(long(), c.Fields...)
		}
		s.Comps = append(s.Comps, c)
	}
	return s
}

// isNamed by rune, since a name is made of letters and digits.
func isNamed(s string) bool {
	if s == "" || len(s) > 12 || strings.ContainsRune("0123456789", rune(s[0])) {
		return false
	}
	return strings.Trim(s, "abcdefghijklmnopqrstuvwxyz0123456789") == ""
}

// checked goes the way of P7.1's sentence, with no memory but the schema.
func checked(s api.Schema) api.Errno {
	if s.Version <= 0 || s.Version > 1073741824 {
		return api.ErrArg
	}
	for i, c := range s.Comps {
		if c.Id < 1 || c.Id > 24 || i > 0 && c.Id <= s.Comps[i-1].Id {
			return api.ErrArg
		}
		if !isNamed(c.Name) {
			return api.ErrForm
		}
		for _, o := range s.Comps[:i] {
			if o.Name == c.Name {
				return api.ErrForm
			}
		}
		for j, f := range c.Fields {
			if !isNamed(f.Name) {
				return api.ErrForm
			}
			for _, o := range c.Fields[:j] {
				if o.Name == f.Name {
					return api.ErrForm
				}
			}
		}
		if e := layout.Check(c.Fields); e != api.OK {
			return e
		}
	}
	return api.OK
}

// isKnown: whether all that stands in a schema that can be is found in it.
func isKnown(s api.Schema) bool {
	ids := schema.Ids(s)
	if len(ids) != len(s.Comps) || !slices.IsSorted(ids) {
		return false
	}
	for i, c := range s.Comps {
		byId, is := schema.Find(s, ids[i])
		byName, also := schema.Named(s, c.Name)
		if !is || !also || !reflect.DeepEqual(byId, byName) || !schema.SameComp(byId, c) || byId.Id != ids[i] || byName.Name != c.Name {
			return false
		}
		for j, f := range c.Fields {
			if at, is := schema.FieldNamed(c, f.Name); !is || at != j {
				return false
			}
		}
	}
	return schema.Same(schema.Clone(s), s)
}

func TestManySchemas(t *testing.T) {
	dice := rand.New(rand.NewPCG(1, 7))
	seen := map[api.Errno]int{}
	for range 100000 {
		s := someSchema(dice)
		want := checked(s)
		seen[want]++
		if e := schema.Check(s); e != want || e == api.OK && !isKnown(s) {
			t.Fatal(s, e, want)
		}
	}
	if seen[api.OK] < 1000 || seen[api.ErrArg] < 1000 || seen[api.ErrForm] < 1000 || seen[api.ErrFull] < 1000 || len(seen) != 4 {
		t.Error(seen)
	}
}

func FuzzSchemas(f *testing.F) {
	f.Add(uint64(1), "a", 1, 1)
	f.Add(uint64(7), "", 24, 1<<30)
	f.Fuzz(func(t *testing.T, seed uint64, name string, id, version int) {
		dice := rand.New(rand.NewPCG(seed, 7))
		s := someSchema(dice)
		if len(s.Comps) > 0 && dice.IntN(2) == 0 {
			s.Comps[dice.IntN(len(s.Comps))].Id = id
		}
		if len(s.Comps) > 0 && dice.IntN(2) == 0 {
			s.Comps[dice.IntN(len(s.Comps))].Name = name
		}
		if dice.IntN(4) == 0 {
			s.Version = version
		}
		was := schema.Clone(s)
		want := checked(s)
		if schema.IsName(name) != isNamed(name) {
			t.Fatalf("%q", name)
		}
		if e := schema.Check(s); e != want || e == api.OK && !isKnown(s) || !schema.Same(s, was) {
			t.Fatal(s, e, want)
		}
		for _, p := range []api.Part{{Comp: id}, {Comp: 1, Val: make([]api.Int, dice.IntN(9))}} {
			c, is := schema.Find(s, p.Comp)
			e := schema.CheckPart(s, p)
			if !is && e != api.ErrNone || is && e != layout.Fit(c.Fields, p.Val) {
				t.Fatal(s, p, e)
			}
		}
	})
}
