package diff_test

import (
	"math/rand/v2"
	"reflect"
	"slices"
	"strconv"
	"strings"
	"testing"

	"retrofit/api"
	"retrofit/diff"
	"retrofit/schema"
)

const (
	maxInt = 1<<63 - 1
	minInt = -1 << 63
)

func of(name string, k api.Kind, n int) api.Field { return api.Field{Name: name, Kind: k, Count: n} }

// bytes are fields of 1 byte, one of each of these names.
func bytes(names string) []api.Field {
	list := []api.Field{}
	for _, name := range strings.Fields(names) {
		list = append(list, of(name, api.U8, 1))
	}
	return list
}

func comp(id int, name string, list ...api.Field) api.Comp {
	return api.Comp{Id: id, Name: name, Fields: list}
}

func scheme(version int, list ...api.Comp) api.Schema {
	return api.Schema{Version: version, Comps: list}
}

// one is a schema of one component, with these fields.
func one(list ...api.Field) api.Schema { return scheme(1, comp(2, "a", list...)) }

// all have all components from one id on to another one, of 8 fields each.
func all(from, to int) api.Schema {
	s := scheme(1)
	for id := from; id <= to; id++ {
		s.Comps = append(s.Comps, comp(id, "c"+strconv.Itoa(id), bytes("a b c d e f g h")...))
	}
	return s
}

// long has a row of 264 bytes.
func long() []api.Field {
	list := []api.Field{}
	for _, name := range []string{"a", "b", "c", "d"} {
		list = append(list, of(name, api.U64, 8))
	}
	return append(list, of("e", api.Bool, 1))
}

// before and after are unlike in all ways.
func before() api.Schema {
	return scheme(3,
		comp(1, "old", bytes("x")...),
		comp(2, "body", bytes("p q r s t u")...),
		comp(5, "team", of("id", api.U8, 1)),
		comp(9, "tag"),
		comp(24, "last", bytes("x y")...),
	)
}

func after() api.Schema {
	return scheme(4,
		comp(2, "corpus", of("u", api.I8, 1), of("n", api.U8, 1), of("q", api.U8, 2), of("m", api.Ref, 1), of("s", api.U8, 1)),
		comp(3, "new", bytes("x y")...),
		comp(5, "team", of("id", api.U16, 1)),
		comp(9, "tag"),
		comp(24, "last", bytes("y x")...),
	)
}

const beforeToAfter = "dropped 1;" +
	"renamed 2;fielddropped 2 p;fielddropped 2 r;fielddropped 2 t;fieldadded 2 n;fieldadded 2 m;retyped 2 q;retyped 2 u;moved 2;" +
	"added 3;retyped 5 id;moved 24"

const afterToBefore = "added 1;" +
	"renamed 2;fielddropped 2 n;fielddropped 2 m;fieldadded 2 p;fieldadded 2 r;fieldadded 2 t;retyped 2 u;retyped 2 q;moved 2;" +
	"dropped 3;retyped 5 id;moved 24"

// wrong are schemas that can't be, by what Check says of them.
func wrong() map[api.Errno][]api.Schema {
	return map[api.Errno][]api.Schema{
		api.ErrArg: {
			{},
			scheme(-1, comp(1, "a")),
			scheme(1<<30+1, comp(1, "a")),
			scheme(1, comp(0, "a")),
			scheme(1, comp(25, "a")),
			scheme(1, comp(minInt, "a")),
			scheme(1, comp(2, "a"), comp(1, "b")),
			scheme(1, comp(2, "a"), comp(2, "b")),
			one(bytes("a b c d e f g h i")...),
			one(of("x", 0, 1)),
			one(of("x", api.U8, maxInt)),
		},
		api.ErrForm: {
			scheme(1, comp(1, "")),
			scheme(1, comp(1, "A")),
			scheme(1, comp(1, "a"), comp(2, "a")),
			one(bytes("x X")...),
			one(bytes("x y x")...),
			one(of("", api.U8, 1)),
		},
		api.ErrFull: {
			one(long()...),
			scheme(1, comp(1, "a"), comp(2, "b", long()...)),
		},
	}
}

// P9.1

func TestChangesByHand(t *testing.T) {
	for i, x := range []struct {
		a, b api.Schema
		want string
	}{
		{scheme(1), scheme(1), ""},
		{scheme(1), scheme(1 << 30), ""},
		{before(), before(), ""},
		{scheme(3, after().Comps...), after(), ""},
		{all(1, 24), all(1, 24), ""},

		// What one of them alone has is one change, whatever its fields.
		{scheme(1), scheme(1, comp(1, "a")), "added 1"},
		{scheme(1, comp(24, "a")), scheme(1), "dropped 24"},
		{scheme(1), one(bytes("x y")...), "added 2"},
		{one(bytes("x y")...), scheme(1), "dropped 2"},
		{scheme(1, comp(1, "a")), scheme(1, comp(2, "a")), "dropped 1;added 2"},
		{scheme(1, comp(2, "a")), scheme(1, comp(1, "a")), "added 1;dropped 2"},
		{scheme(1, comp(1, "a"), comp(3, "c")), scheme(1, comp(2, "a"), comp(4, "c")), "dropped 1;added 2;dropped 3;added 4"},
		{all(1, 3), all(3, 5), "dropped 1;dropped 2;added 4;added 5"},
		{scheme(1, comp(9, "a"), comp(10, "b")), scheme(1, comp(2, "c"), comp(10, "b"), comp(11, "a")), "added 2;dropped 9;added 11"},

		{scheme(1, comp(1, "a")), scheme(1, comp(1, "b")), "renamed 1"},
		{scheme(1, comp(1, "a"), comp(2, "b")), scheme(1, comp(1, "b"), comp(2, "a")), "renamed 1;renamed 2"},
		{scheme(1, comp(1, "a", bytes("x")...), comp(2, "b")), scheme(1, comp(1, "b"), comp(2, "a", bytes("x")...)), "renamed 1;fielddropped 1 x;renamed 2;fieldadded 2 x"},
		{scheme(1, comp(1, "a")), scheme(1, comp(1, "aa")), "renamed 1"},

		{one(bytes("x")...), one(bytes("x y")...), "fieldadded 2 y"},
		{one(bytes("x")...), one(bytes("y x")...), "fieldadded 2 y"},
		{one(), one(bytes("z y x")...), "fieldadded 2 z;fieldadded 2 y;fieldadded 2 x"},
		{one(bytes("x y")...), one(bytes("x")...), "fielddropped 2 y"},
		{one(bytes("x y")...), one(bytes("y")...), "fielddropped 2 x"},
		{one(bytes("z y x")...), one(), "fielddropped 2 z;fielddropped 2 y;fielddropped 2 x"},
		{one(bytes("x y")...), one(bytes("v u")...), "fielddropped 2 x;fielddropped 2 y;fieldadded 2 v;fieldadded 2 u"},
		{one(bytes("x")...), one(bytes("xx")...), "fielddropped 2 x;fieldadded 2 xx"},

		{one(of("x", api.U8, 1)), one(of("x", api.I8, 1)), "retyped 2 x"},
		{one(of("x", api.U8, 1)), one(of("x", api.U8, 2)), "retyped 2 x"},
		{one(of("x", api.U8, 1)), one(of("x", api.Ref, 8)), "retyped 2 x"},
		{one(of("x", api.U64, 1)), one(of("x", api.Ref, 1)), "retyped 2 x"},
		{one(of("x", api.U16, 1)), one(of("x", api.U8, 2)), "retyped 2 x"},
		{one(of("y", api.U8, 1), of("x", api.U8, 1)), one(of("y", api.U8, 2), of("x", api.U8, 2)), "retyped 2 y;retyped 2 x"},
		{one(of("y", api.U8, 1), of("x", api.U8, 1)), one(of("x", api.U8, 2), of("y", api.U8, 2)), "retyped 2 y;retyped 2 x;moved 2"},
		{one(of("x", api.U8, 1), of("y", api.U8, 2)), one(of("x", api.U8, 2), of("y", api.U8, 1)), "retyped 2 x;retyped 2 y"},
		{one(of("x", api.U8, 1), of("y", api.U8, 2)), one(of("y", api.U8, 2), of("x", api.U8, 1)), "moved 2"},

		// Moved is what both have, whatever stands between.
		{one(bytes("x y z")...), one(bytes("z x y")...), "moved 2"},
		{one(bytes("x y z")...), one(bytes("x z y")...), "moved 2"},
		{one(bytes("x y z")...), one(bytes("y z")...), "fielddropped 2 x"},
		{one(bytes("x y z")...), one(bytes("x z")...), "fielddropped 2 y"},
		{one(bytes("x z")...), one(bytes("w x y z v")...), "fieldadded 2 w;fieldadded 2 y;fieldadded 2 v"},
		{one(bytes("x y z")...), one(bytes("z w x")...), "fielddropped 2 y;fieldadded 2 w;moved 2"},
		{one(bytes("x y")...), one(bytes("y w")...), "fielddropped 2 x;fieldadded 2 w"},
		{one(bytes("a b c d e f g h")...), one(bytes("a b c d e f h g")...), "moved 2"},
		{one(bytes("a b c d e f g h")...), one(bytes("h b c d e f g a")...), "moved 2"},

		{before(), after(), beforeToAfter},
		{after(), before(), afterToBefore},
	} {
		lines, e := diff.Lines(x.a, x.b)
		if e != api.OK || strings.Join(lines, ";") != x.want {
			t.Errorf("%d %q %d", i, lines, e)
		}
		if list, e := diff.Of(x.a, x.b); e != api.OK || strings.Join(told(list), ";") != x.want {
			t.Error(i, list, e)
		}
	}
}

func TestChangesAsTheyAre(t *testing.T) {
	list, e := diff.Of(before(), after())
	if want := []diff.Change{
		{diff.Dropped, 1, ""},
		{diff.Renamed, 2, ""},
		{diff.FieldDropped, 2, "p"},
		{diff.FieldDropped, 2, "r"},
		{diff.FieldDropped, 2, "t"},
		{diff.FieldAdded, 2, "n"},
		{diff.FieldAdded, 2, "m"},
		{diff.Retyped, 2, "q"},
		{diff.Retyped, 2, "u"},
		{diff.Moved, 2, ""},
		{diff.Added, 3, ""},
		{diff.Retyped, 5, "id"},
		{diff.Moved, 24, ""},
	}; e != api.OK || !slices.Equal(list, want) {
		t.Error(list, e)
	}
	if !slices.Equal([]int{1, 2, 3, 4, 5, 6, 7}, []int{diff.Added, diff.Dropped, diff.Renamed, diff.FieldDropped, diff.FieldAdded, diff.Retyped, diff.Moved}) {
		t.Error("kinds")
	}
}

func TestAllComponents(t *testing.T) {
	for n := range 25 {
		first, last := all(1, n), all(25-n, 24)
		added, dropped := []diff.Change{}, []diff.Change{}
		for i := range n {
			added = append(added, diff.Change{Kind: diff.Added, Comp: 25 - n + i})
			dropped = append(dropped, diff.Change{Kind: diff.Dropped, Comp: 1 + i})
		}
		if list, e := diff.Of(scheme(1), last); e != api.OK || !slices.Equal(list, added) {
			t.Error(n, list, e)
		}
		if list, e := diff.Of(first, scheme(1)); e != api.OK || !slices.Equal(list, dropped) {
			t.Error(n, list, e)
		}
		if k := diff.Kept(first, last); !slices.Equal(k, schema.Ids(all(max(1, 25-n), n))) {
			t.Error(n, k)
		}
	}
}

func TestAllFieldsOfAll(t *testing.T) {
	a, b, want := all(1, 24), all(1, 24), []diff.Change{}
	for i, c := range b.Comps {
		b.Comps[i].Fields = bytes("i j k l m n o p")
		for _, name := range strings.Fields("a b c d e f g h") {
			want = append(want, diff.Change{Kind: diff.FieldDropped, Comp: c.Id, Field: name})
		}
		for _, name := range strings.Fields("i j k l m n o p") {
			want = append(want, diff.Change{Kind: diff.FieldAdded, Comp: c.Id, Field: name})
		}
	}
	if list, e := diff.Of(a, b); e != api.OK || !slices.Equal(list, want) {
		t.Error(list, e)
	}
}

func TestSchemasThatCantBe(t *testing.T) {
	refused := func(a, b api.Schema, want api.Errno) bool {
		list, e := diff.Of(a, b)
		lines, f := diff.Lines(a, b)
		return e == want && f == want && len(list) == 0 && len(lines) == 0 && len(diff.Kept(a, b)) == 0
	}
	for want, list := range wrong() {
		for i, s := range list {
			for _, o := range []api.Schema{scheme(1), before(), all(1, 24)} {
				if !refused(s, o, want) || !refused(o, s, want) {
					t.Error(want, i)
				}
			}
			// Of two that can't be the first one's error is told.
			for other, list := range wrong() {
				for j, o := range list {
					if !refused(s, o, want) || !refused(o, s, other) {
						t.Error(want, i, other, j)
					}
				}
			}
		}
	}
	many := make([]api.Comp, 100000)
	for i := range many {
		many[i] = comp(i+1, "c"+strconv.Itoa(i))
	}
	if !refused(scheme(1, many...), scheme(1), api.ErrArg) || !refused(before(), scheme(1, many...), api.ErrArg) {
		t.Error("many")
	}
}

func TestKept(t *testing.T) {
	for i, x := range []struct {
		a, b api.Schema
		want []int
	}{
		{scheme(1), scheme(1), nil},
		{scheme(1), before(), nil},
		{before(), scheme(1), nil},
		{before(), before(), []int{1, 2, 5, 9, 24}},
		{before(), after(), []int{2, 5, 9, 24}},
		{after(), before(), []int{2, 5, 9, 24}},
		{all(1, 24), before(), []int{1, 2, 5, 9, 24}},
		{all(1, 3), all(4, 24), nil},
		{all(1, 4), all(4, 24), []int{4}},
		// It is the Id that counts, not the name.
		{scheme(1, comp(1, "a")), scheme(1, comp(2, "a")), nil},
		{scheme(1, comp(1, "a", bytes("x")...)), scheme(2, comp(1, "b")), []int{1}},
	} {
		if k := diff.Kept(x.a, x.b); !slices.Equal(k, x.want) {
			t.Error(i, k)
		}
	}
}

// P9.2

func TestLine(t *testing.T) {
	words := []string{"", "added", "dropped", "renamed", "fielddropped", "fieldadded", "retyped", "moved", ""}
	for kind, word := range words {
		for _, x := range []struct {
			comp int
			name string
			want string
		}{
			{1, "", " 1"},
			{24, "", " 24"},
			{0, "", " 0"},
			{2, "y", " 2 y"},
			{10, "abcdefghijkl", " 10 abcdefghijkl"},
			// What can't be is told all the same.
			{25, "", " 25"},
			{-7, "", " -7"},
			{-7, "y", " -7 y"},
			{maxInt, "", " 9223372036854775807"},
			{minInt, "x", " -9223372036854775808 x"},
			{3, " ", " 3  "},
			{3, "A b\x00\xff", " 3 A b\x00\xff"},
			{3, strings.Repeat("z", 1000), " 3 " + strings.Repeat("z", 1000)},
		} {
			want := word + x.want
			if word == "" {
				want = ""
			}
			if s := diff.Line(diff.Change{Kind: kind, Comp: x.comp, Field: x.name}); s != want {
				t.Errorf("%d %q %q", kind, s, want)
			}
		}
	}
}

func TestLinesOfNoKind(t *testing.T) {
	for _, kind := range []int{0, 8, 9, -1, -7, 1<<8 + 1, 1<<32 + 1, 1<<32 + 7, maxInt, minInt} {
		for _, x := range []diff.Change{{kind, 1, ""}, {kind, 1, "x"}, {kind, 0, "x"}, {kind, minInt, ""}} {
			if s := diff.Line(x); s != "" {
				t.Errorf("%d %q", kind, s)
			}
		}
	}
}

// P9.3

// told are the lines as the document tells them, of changes that there are.
func told(list []diff.Change) []string {
	words := strings.Fields("added dropped renamed fielddropped fieldadded retyped moved")
	lines := []string{}
	for _, x := range list {
		lines = append(lines, strings.TrimSpace(words[x.Kind-1]+" "+strconv.Itoa(x.Comp)+" "+x.Field))
	}
	return lines
}

// reading is a second reading of what the changes are: all that there may be,
// in their order, each asked for by itself.
func reading(a, b api.Schema) []diff.Change {
	list := []diff.Change{}
	for id := 1; id <= 24; id++ {
		i := slices.IndexFunc(a.Comps, func(c api.Comp) bool { return c.Id == id })
		j := slices.IndexFunc(b.Comps, func(c api.Comp) bool { return c.Id == id })
		tell := func(is bool, kind int, name string) {
			if is {
				list = append(list, diff.Change{Kind: kind, Comp: id, Field: name})
			}
		}
		tell(i < 0 && j >= 0, diff.Added, "")
		tell(i >= 0 && j < 0, diff.Dropped, "")
		if i < 0 || j < 0 {
			continue
		}
		c, d := a.Comps[i], b.Comps[j]
		tell(c.Name != d.Name, diff.Renamed, "")
		for _, f := range c.Fields {
			tell(place(d, f.Name) < 0, diff.FieldDropped, f.Name)
		}
		for _, g := range d.Fields {
			tell(place(c, g.Name) < 0, diff.FieldAdded, g.Name)
		}
		crossed := false
		for k, f := range c.Fields {
			at := place(d, f.Name)
			tell(at >= 0 && d.Fields[max(at, 0)] != f, diff.Retyped, f.Name)
			for _, o := range c.Fields[:k] {
				crossed = crossed || at >= 0 && at < place(d, o.Name)
			}
		}
		tell(crossed, diff.Moved, "")
	}
	return list
}

func place(c api.Comp, name string) int {
	return slices.IndexFunc(c.Fields, func(f api.Field) bool { return f.Name == name })
}

// mirrored: whether what the one list says is added, the other one says is
// dropped, and all else is the same, but for the order of Retyped.
func mirrored(list, back []diff.Change) bool {
	turned := []diff.Change{}
	for _, x := range back {
		x.Kind = []int{0, diff.Dropped, diff.Added, diff.Renamed, diff.FieldAdded, diff.FieldDropped, diff.Retyped, diff.Moved}[x.Kind]
		turned = append(turned, x)
	}
	return slices.Equal(sorted(list), sorted(turned))
}

func sorted(list []diff.Change) []diff.Change {
	return slices.SortedFunc(slices.Values(list), func(x, y diff.Change) int {
		if x.Comp != y.Comp {
			return x.Comp - y.Comp
		}
		if x.Kind != y.Kind {
			return x.Kind - y.Kind
		}
		return strings.Compare(x.Field, y.Field)
	})
}

// sameComps: whether the components are the same, whatever the versions.
func sameComps(a, b api.Schema) bool { return slices.EqualFunc(a.Comps, b.Comps, schema.SameComp) }

// bothKept are the Ids that both have, told by going through all of them.
func bothKept(a, b api.Schema) []int {
	ids := []int{}
	for id := 1; id <= 24; id++ {
		if slices.Contains(schema.Ids(a), id) && slices.Contains(schema.Ids(b), id) {
			ids = append(ids, id)
		}
	}
	return ids
}

// holds: whether all that is promised holds of two schemas.
func holds(a, b api.Schema) bool {
	want := schema.Check(a)
	if want == api.OK {
		want = schema.Check(b)
	}
	list, e := diff.Of(a, b)
	lines, f := diff.Lines(a, b)
	if want != api.OK {
		return e == want && f == want && len(list) == 0 && len(lines) == 0 && len(diff.Kept(a, b)) == 0
	}
	back, g := diff.Of(b, a)
	return e == api.OK && f == api.OK && g == api.OK &&
		slices.Equal(list, reading(a, b)) && slices.Equal(lines, told(list)) &&
		(len(list) == 0) == sameComps(a, b) && mirrored(list, back) &&
		slices.Equal(diff.Kept(a, b), bothKept(a, b))
}

// rows are all lists of some of three fields, of two kinds, in all orders.
func rows() [][]api.Field {
	list := [][]api.Field{nil}
	for from := 0; from < len(list); from++ {
		for _, name := range []string{"x", "y", "z"} {
			if place(api.Comp{Fields: list[from]}, name) >= 0 {
				continue
			}
			for _, k := range []api.Kind{api.U8, api.I16} {
				list = append(list, append(slices.Clone(list[from]), of(name, k, 1)))
			}
		}
	}
	return list
}

func TestAllPairsOfRows(t *testing.T) {
	list := rows()
	if len(list) != 79 {
		t.Fatal(len(list))
	}
	for i, c := range list {
		for j, d := range list {
			a, b := one(c...), one(d...)
			if !holds(a, b) {
				t.Fatal(c, d)
			}
			if list, e := diff.Of(a, b); e != api.OK || (len(list) == 0) != (i == j) {
				t.Error(c, d, list)
			}
		}
	}
}

func TestAllPairsOfIds(t *testing.T) {
	made := func(set int) api.Schema {
		s := scheme(1 + set)
		for i, id := range []int{1, 2, 7, 23, 24} {
			if set>>i&1 == 1 {
				s.Comps = append(s.Comps, comp(id, "c"+strconv.Itoa(id), bytes("x")...))
			}
		}
		return s
	}
	for i := range 32 {
		for j := range 32 {
			if !holds(made(i), made(j)) {
				t.Error(i, j)
			}
		}
	}
}

// someField has one of few names, so that they meet often.
func someField(dice *rand.Rand) api.Field {
	return of([]string{"a", "b", "c", "d", "e"}[dice.IntN(5)], api.Kind(1+dice.IntN(10)), 1+dice.IntN(2))
}

// someSchema can mostly be.
func someSchema(dice *rand.Rand) api.Schema {
	s := scheme(1 + dice.IntN(3))
	for id := 1; id <= 24; id++ {
		if dice.IntN(8) > 0 {
			continue
		}
		c := comp(id, "c"+strconv.Itoa(id))
		for range dice.IntN(5) {
			if f := someField(dice); place(c, f.Name) < 0 {
				c.Fields = append(c.Fields, f)
			}
		}
		s.Comps = append(s.Comps, c)
	}
	return s
}

// turn changes one thing of a schema, that can mostly be then too.
func turn(dice *rand.Rand, s *api.Schema) {
	if len(s.Comps) == 0 || dice.IntN(8) == 0 {
		*s = someSchema(dice)
		return
	}
	i := dice.IntN(len(s.Comps))
	c := &s.Comps[i]
	switch dice.IntN(12) {
	case 0:
		c.Name = "n" + strconv.Itoa(dice.IntN(9))
	case 1:
		c.Name = s.Comps[dice.IntN(len(s.Comps))].Name
	case 2:
		s.Comps = slices.Delete(s.Comps, i, i+1)
	case 3:
		s.Comps[i] = comp(c.Id, c.Name)
	case 4:
		s.Version += dice.IntN(2) - dice.IntN(30)/29*9
	case 5:
		if dice.IntN(4) == 0 {
			c.Fields = append(c.Fields, of("long", api.Kind(dice.IntN(12)), 8), of("e", api.U8, 1))
		}
	case 6:
		if dice.IntN(4) == 0 {
			c.Id += dice.IntN(3) - 1
		}
	case 7:
		c.Fields = append(c.Fields, of("f"+strconv.Itoa(dice.IntN(5)), api.I8, 1))
	case 8:
		if dice.IntN(4) == 0 {
			c.Fields = long()
		}
	default:
		if len(c.Fields) > 0 {
			j, k := dice.IntN(len(c.Fields)), dice.IntN(len(c.Fields))
			turnField(dice, c, j, k)
		}
	}
}

func turnField(dice *rand.Rand, c *api.Comp, j, k int) {
	switch dice.IntN(4) {
	case 0:
		c.Fields[j], c.Fields[k] = c.Fields[k], c.Fields[j]
	case 1:
		c.Fields[j].Kind, c.Fields[j].Count = api.Kind(1+dice.IntN(10)), 1+dice.IntN(2)
	case 2:
		c.Fields = slices.Delete(c.Fields, j, j+1)
	case 3:
		c.Fields = slices.Insert(c.Fields, j, someField(dice))
	}
}

// somePair is a schema and what some turns make of it.
func somePair(dice *rand.Rand) (api.Schema, api.Schema) {
	a := someSchema(dice)
	b := schema.Clone(a)
	for range dice.IntN(12) {
		turn(dice, &b)
	}
	if dice.IntN(2) == 0 {
		return b, a
	}
	return a, b
}

func TestManyPairs(t *testing.T) {
	dice := rand.New(rand.NewPCG(1, 9))
	errors, kinds := map[api.Errno]int{}, map[int]int{}
	for range 100000 {
		a, b := somePair(dice)
		if !holds(a, b) {
			t.Fatal(a, b)
		}
		list, e := diff.Of(a, b)
		errors[e]++
		for _, x := range list {
			kinds[x.Kind]++
		}
	}
	for _, e := range []api.Errno{api.OK, api.ErrArg, api.ErrForm, api.ErrFull} {
		if errors[e] < 500 {
			t.Error(errors)
		}
	}
	for kind := 1; kind <= 7; kind++ {
		if kinds[kind] < 500 {
			t.Error(kinds)
		}
	}
}

func FuzzPairs(f *testing.F) {
	f.Add(uint64(1), "a", 1, 1)
	f.Add(uint64(9), "", 24, 1<<30)
	f.Fuzz(func(t *testing.T, seed uint64, name string, id, version int) {
		dice := rand.New(rand.NewPCG(seed, 9))
		a, b := somePair(dice)
		if len(b.Comps) > 0 {
			i := dice.IntN(len(b.Comps))
			b.Comps[i].Name = name
			if dice.IntN(2) == 0 {
				b.Comps[i].Id = id
			}
		}
		if dice.IntN(4) == 0 {
			a.Version = version
		}
		if !holds(a, b) || !holds(b, a) {
			t.Fatal(a, b)
		}
		want := ""
		if words := strings.Fields("none added dropped renamed fielddropped fieldadded retyped moved"); version >= 1 && version <= 7 {
			want = words[version] + " " + strconv.Itoa(id)
			if name != "" {
				want += " " + name
			}
		}
		if s := diff.Line(diff.Change{Kind: version, Comp: id, Field: name}); s != want {
			t.Fatalf("%q %q", s, want)
		}
	})
}

// Rules 2 and 3 of DOC.md

// kept is the same schema with room behind all its lists, and tells whether
// they and their room are still as they were.
func kept(s api.Schema) (api.Schema, func() bool) {
	comps := []api.Comp{}
	for _, c := range s.Comps {
		list := append(slices.Clone(c.Fields), of("room", 99, 99), of("more", 98, 98))
		comps = append(comps, comp(c.Id, c.Name, list[:len(c.Fields)]...))
	}
	comps = append(comps, comp(77, "room", of("room", 97, 97)), comp(78, "more"))
	given := scheme(s.Version, comps[:len(s.Comps)]...)
	was := withRoom(given)
	return given, func() bool { return reflect.DeepEqual(withRoom(given), was) }
}

// withRoom copies a schema with all that its lists have room for.
func withRoom(s api.Schema) api.Schema {
	comps := []api.Comp{}
	for _, c := range s.Comps[:cap(s.Comps)] {
		comps = append(comps, comp(c.Id, c.Name, slices.Clone(c.Fields[:cap(c.Fields)])...))
	}
	return scheme(s.Version, comps...)
}

func TestSchemasStay(t *testing.T) {
	wrongs := wrong()[api.ErrForm]
	for i, x := range [][2]api.Schema{{before(), after()}, {after(), before()}, {before(), wrongs[4]}, {wrongs[4], after()}} {
		a, stays := kept(x[0])
		b, alsoStays := kept(x[1])
		for range 2 {
			diff.Of(a, b)
			diff.Lines(a, b)
			diff.Kept(a, b)
		}
		if !stays() || !alsoStays() {
			t.Error(i, a, b)
		}
	}
}

func TestAnswersAreNew(t *testing.T) {
	a, stays := kept(before())
	b, alsoStays := kept(after())
	for range 2 {
		list, _ := diff.Of(a, b)
		lines, _ := diff.Lines(a, b)
		ids := diff.Kept(a, b)
		if !slices.Equal(list, reading(before(), after())) || strings.Join(lines, ";") != beforeToAfter || !slices.Equal(ids, []int{2, 5, 9, 24}) {
			t.Error(list, lines, ids)
		}
		for i := range list[:cap(list)] {
			list[:cap(list)][i] = diff.Change{Kind: 99, Comp: 99, Field: "spoilt"}
		}
		for i := range lines[:cap(lines)] {
			lines[:cap(lines)][i] = "spoilt"
		}
		for i := range ids[:cap(ids)] {
			ids[:cap(ids)][i] = 99
		}
	}
	if !stays() || !alsoStays() {
		t.Error(a, b)
	}
}

func TestAnswersAreNotKept(t *testing.T) {
	a, b := before(), after()
	list, _ := diff.Of(a, b)
	for _, s := range []api.Schema{a, b} {
		for i, c := range s.Comps {
			for j := range c.Fields {
				c.Fields[j] = of("spoilt", 99, 99)
			}
			s.Comps[i] = comp(99, "spoilt")
		}
	}
	if !slices.Equal(list, reading(before(), after())) {
		t.Error(list)
	}
}

func TestNothingIsAsNil(t *testing.T) {
	a := api.Schema{Version: 1, Comps: []api.Comp{{Id: 1, Name: "a", Fields: []api.Field{}}}}
	b := api.Schema{Version: 1, Comps: []api.Comp{{Id: 1, Name: "a"}}}
	if !holds(a, b) || !holds(b, a) || !holds(api.Schema{Version: 1, Comps: []api.Comp{}}, scheme(1)) {
		t.Error("not the same")
	}
}
