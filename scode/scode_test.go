package scode_test

import (
	"math/rand/v2"
	"reflect"
	"slices"
	"strconv"
	"strings"
	"testing"

	"retrofit/api"
	"retrofit/layout"
	"retrofit/schema"
	"retrofit/scode"
)

const (
	maxInt = 1<<63 - 1
	minInt = -1 << 63
)

func of(name string, k api.Kind, n int) api.Field { return api.Field{Name: name, Kind: k, Count: n} }

func comp(id int, name string, list ...api.Field) api.Comp {
	return api.Comp{Id: id, Name: name, Fields: list}
}

func scheme(version int, list ...api.Comp) api.Schema {
	return api.Schema{Version: version, Comps: list}
}

// body, team and tag are three components that can be. A body's row has 12
// bytes, 1 of them behind the last field; a team's has 72, 7 of them between.
func body() api.Comp {
	return comp(2, "body", of("pos", api.I32, 2), of("mass", api.U16, 1), of("solid", api.Bool, 1))
}

func team() api.Comp { return comp(5, "team", of("id", api.U8, 1), of("pos", api.Ref, 8)) }

func tag() api.Comp { return comp(24, "tag") }

func three() api.Schema { return scheme(7, body(), team(), tag()) }

const threeBytes = "\x53\x07\x00\x00\x00\x03" +
	"\x02\x04body\x03" + "\x03pos\x04\x02" + "\x04mass\x07\x01" + "\x05solid\x01\x01" +
	"\x05\x04team\x02" + "\x02id\x06\x01" + "\x03pos\x0a\x08" +
	"\x18\x03tag\x00"

// wide256 has as many fields, of as many elements, as its row has room for.
func wide256() []api.Field {
	list := []api.Field{}
	for _, name := range []string{"a", "b", "c", "d"} {
		list = append(list, of(name, api.U64, 8))
	}
	return list
}

// long has a row of 264 bytes.
func long() []api.Field { return append(wide256(), of("e", api.Bool, 1)) }

// many are n fields of 1 byte, named f0 and so on.
func many(n int) []api.Field {
	list := []api.Field{}
	for i := range n {
		list = append(list, of("f"+strconv.Itoa(i), api.U8, 1))
	}
	return list
}

// greatest has as much of everything as a schema may have.
func greatest() api.Schema {
	s := scheme(1 << 30)
	for id := 1; id <= 24; id++ {
		c := comp(id, "abcdefghij"+strconv.Itoa(id+10))
		for n := range 8 {
			c.Fields = append(c.Fields, of("z1234567890"+strconv.Itoa(n), api.Kind(1+(id+n)%3), 8))
		}
		s.Comps = append(s.Comps, c)
	}
	return s
}

// kept is the same schema with room behind all its lists, and tells whether
// they and their room are still as they were.
func kept(s api.Schema) (api.Schema, func() bool) {
	comps := []api.Comp{}
	for _, c := range s.Comps {
		list := append(slices.Clone(c.Fields), of("room", 99, 99), of("more", 98, 98))
		comps = append(comps, comp(c.Id, c.Name, list[:len(c.Fields)]...))
	}
	comps = append(comps, comp(77, "room", of("room", 97, 97)), comp(78, "more"))
	given := scheme(s.Version, comps[:len(s.Comps)]...)
	was := withRoom(given)
	return given, func() bool { return reflect.DeepEqual(withRoom(given), was) }
}

// withRoom copies a schema with all that its lists have room for.
func withRoom(s api.Schema) api.Schema {
	comps := []api.Comp{}
	for _, c := range s.Comps[:cap(s.Comps)] {
		comps = append(comps, comp(c.Id, c.Name, slices.Clone(c.Fields[:cap(c.Fields)])...))
	}
	return scheme(s.Version, comps...)
}

// isZero: whether a schema is the zero one, without lists of anything.
func isZero(s api.Schema) bool { return s.Version == 0 && len(s.Comps) == 0 }

// refuses: whether there is no schema with these bytes.
func refuses(bytes string) bool {
	s, e := scode.Decode(bytes)
	return e == api.ErrForm && isZero(s)
}

// written are the bytes as the document tells them, whether or not the schema
// can be; of what has more bytes than there is room for the lowest ones.
func written(s api.Schema) string {
	b := []byte{83, byte(s.Version), byte(s.Version >> 8), byte(s.Version >> 16), byte(s.Version >> 24), byte(len(s.Comps))}
	for _, c := range s.Comps {
		b = append(b, byte(c.Id), byte(len(c.Name)))
		b = append(b, c.Name...)
		b = append(b, byte(len(c.Fields)))
		for _, f := range c.Fields {
			b = append(b, byte(len(f.Name)))
			b = append(b, f.Name...)
			b = append(b, byte(f.Kind), byte(f.Count))
		}
	}
	return string(b)
}

// scan cuts bytes off the front, and knows when there were too few.
type scan struct {
	rest  string
	short bool
}

func (x *scan) cut(n int) string {
	if x.short || n > len(x.rest) {
		x.short = true
		return strings.Repeat("\x00", n)
	}
	s := x.rest[:n]
	x.rest = x.rest[n:]
	return s
}

func (x *scan) one() int { return int(x.cut(1)[0]) }

// read is a second reading of what a schema's bytes are; false: of none.
func read(bytes string) (api.Schema, bool) {
	x := &scan{rest: bytes}
	if x.one() != 83 {
		return api.Schema{}, false
	}
	s := api.Schema{Version: x.one() + x.one()<<8 + x.one()<<16 + x.one()<<24}
	for range x.one() {
		c := api.Comp{Id: x.one()}
		c.Name = x.cut(x.one())
		for range x.one() {
			f := api.Field{Name: x.cut(x.one())}
			f.Kind = api.Kind(x.one())
			f.Count = x.one()
			c.Fields = append(c.Fields, f)
		}
		s.Comps = append(s.Comps, c)
	}
	return s, !x.short && x.rest == "" && schema.Check(s) == api.OK
}

// holds: whether Decode answers of these bytes what the second reading does.
func holds(bytes string) bool {
	want, is := read(bytes)
	if !is {
		return refuses(bytes)
	}
	s, e := scode.Decode(bytes)
	if e != api.OK || !schema.Same(s, want) {
		return false
	}
	again, e := scode.Encode(s)
	return e == api.OK && again == bytes
}

// P8.1

func TestSchemasByHand(t *testing.T) {
	for i, x := range []struct {
		s    api.Schema
		want string
	}{
		{scheme(1), "\x53\x01\x00\x00\x00\x00"},
		{scheme(255), "\x53\xff\x00\x00\x00\x00"},
		{scheme(256), "\x53\x00\x01\x00\x00\x00"},
		{scheme(0x01020304), "\x53\x04\x03\x02\x01\x00"},
		{scheme(1<<30 - 1), "\x53\xff\xff\xff\x3f\x00"},
		{scheme(1 << 30), "\x53\x00\x00\x00\x40\x00"},
		{scheme(1, comp(1, "a")), "\x53\x01\x00\x00\x00\x01\x01\x01a\x00"},
		{scheme(1, comp(24, "abcdefghijkl")), "\x53\x01\x00\x00\x00\x01\x18\x0cabcdefghijkl\x00"},
		{scheme(1, comp(3, "b", of("x", api.Bool, 1))), "\x53\x01\x00\x00\x00\x01\x03\x01b\x01\x01x\x01\x01"},
		{scheme(1, comp(3, "b", of("x", api.Ref, 8))), "\x53\x01\x00\x00\x00\x01\x03\x01b\x01\x01x\x0a\x08"},
		{scheme(1, comp(1, "x"), comp(2, "y")), "\x53\x01\x00\x00\x00\x02\x01\x01x\x00\x02\x01y\x00"},
		{scheme(1, comp(1, "x", of("x", api.U8, 2)), comp(2, "y", of("x", api.U8, 3))),
			"\x53\x01\x00\x00\x00\x02\x01\x01x\x01\x01x\x06\x02\x02\x01y\x01\x01x\x06\x03"},
		{three(), threeBytes},
	} {
		if b, e := scode.Encode(x.s); e != api.OK || b != x.want {
			t.Errorf("%d %q %d", i, b, e)
		}
		if s, e := scode.Decode(x.want); e != api.OK || !schema.Same(s, x.s) {
			t.Error(i, s, e)
		}
	}
}

func TestAllKinds(t *testing.T) {
	for k := api.Bool; k <= api.Ref; k++ {
		for n := 1; n <= 8; n++ {
			s := scheme(1, comp(1, "a", of("x", k, n)))
			want := "\x53\x01\x00\x00\x00\x01\x01\x01a\x01\x01x" + string([]byte{byte(k), byte(n)})
			if b, e := scode.Encode(s); e != api.OK || b != want {
				t.Errorf("%q %d", b, e)
			}
			if o, e := scode.Decode(want); e != api.OK || !schema.Same(o, s) {
				t.Error(o, e)
			}
		}
	}
}

func TestGreatestSchema(t *testing.T) {
	s := greatest()
	b, e := scode.Encode(s)
	if e != api.OK || b != written(s) || len(b) != 6+24*(1+13+1+8*(13+1+1)) {
		t.Error(len(b), e)
	}
	if o, e := scode.Decode(b); e != api.OK || !schema.Same(o, s) {
		t.Error(o, e)
	}
	s.Comps[23].Fields = wide256()
	b, e = scode.Encode(s)
	if o, also := scode.Decode(b); e != api.OK || also != api.OK || !schema.Same(o, s) {
		t.Error(o, e, also)
	}
}

// wrong are schemas that can't be, each with the error of its first fault.
func wrong() map[api.Errno][]api.Schema {
	return map[api.Errno][]api.Schema{
		api.ErrArg: {
			{},
			scheme(0, comp(1, "a")),
			scheme(-1),
			scheme(1<<30 + 1),
			scheme(1<<32 + 1),
			scheme(maxInt),
			scheme(minInt),
			scheme(0, comp(1, ""), comp(2, "a", long()...)),
			scheme(1, comp(0, "a")),
			scheme(1, comp(-1, "a")),
			scheme(1, comp(25, "a")),
			scheme(1, comp(257, "a")),
			scheme(1, comp(2, "a"), comp(1, "b")),
			scheme(1, comp(2, "a"), comp(2, "b")),
			scheme(1, comp(1, "a", of("x", 0, 1))),
			scheme(1, comp(1, "a", of("x", 11, 1))),
			scheme(1, comp(1, "a", of("x", -1, 1))),
			scheme(1, comp(1, "a", of("x", 256+api.U8, 1))),
			scheme(1, comp(1, "a", of("x", api.U8, 0))),
			scheme(1, comp(1, "a", of("x", api.U8, 9))),
			scheme(1, comp(1, "a", of("x", api.U8, 257))),
			scheme(1, comp(1, "a", many(9)...)),
			scheme(1, comp(1, "a", many(256)...)),
			scheme(1, comp(1, "a", many(9)...), comp(2, "")),
		},
		api.ErrForm: {
			scheme(1, comp(1, "")),
			scheme(1, comp(1, "A")),
			scheme(1, comp(1, "1a")),
			scheme(1, comp(1, "abcdefghijklm")),
			scheme(1, comp(1, strings.Repeat("a", 256))),
			scheme(1, comp(1, "a"), comp(2, "a")),
			scheme(1, comp(1, "a", of("", api.U8, 1))),
			scheme(1, comp(1, "a", of("x y", api.U8, 1))),
			scheme(1, comp(1, "a", of("x", api.U8, 1), of("x", api.I8, 1))),
			scheme(1, comp(1, "a", of("x", 0, 0), of("x", 0, 0))),
			scheme(1, comp(1, ""), comp(1, "a", long()...)),
		},
		api.ErrFull: {
			scheme(1, comp(1, "a", long()...)),
			scheme(1, comp(1, "a", long()...), comp(1, "")),
		},
	}
}

func TestEncodeOfWhatCantBe(t *testing.T) {
	for want, list := range wrong() {
		for i, s := range list {
			if b, e := scode.Encode(s); e != want || b != "" {
				t.Errorf("%d %d %q %d", want, i, b, e)
			}
		}
	}
}

func TestDecodeOfWhatCantBe(t *testing.T) {
	for want, list := range wrong() {
		for i, s := range list {
			b := written(s)
			if _, is := read(b); !is && !refuses(b) {
				t.Error(want, i)
			}
		}
	}
	for i, b := range []string{
		"",
		"\x53",
		"\x53\x01\x00\x00\x00",
		"\x00\x00\x00\x00\x00\x00",
		"\x01\x00\x00\x00\x00",                               // without the first byte
		"\x01\x00\x00\x00\x53\x00",                           // with it elsewhere
		"\x73\x01\x00\x00\x00\x00",                           // s is not S
		"\x59\x01\x00\x00\x00\x00",                           // another layer's
		"\x53\x00\x00\x00\x00\x00",                           // the version 0
		"\x53\x01\x00\x00\x40\x00",                           // 2^30 + 1
		"\x53\x01\x00\x00\x80\x00",                           // 2^31 + 1
		"\x53\xff\xff\xff\xff\x00",                           // 2^32 - 1
		"\x53\x00\x00\x00\x01\x00\x00",                       // something behind it
		"\x53\x01\x00\x00\x00\x01",                           // less than told
		"\x53\x01\x00\x00\x00\xff",                           //
		"\x53\x01\x00\x00\x00\x00\x01\x01a\x00",              // more than told
		"\x53\x01\x00\x00\x00\x01\x00\x01a\x00",              // the Id 0
		"\x53\x01\x00\x00\x00\x01\x19\x01a\x00",              // 25
		"\x53\x01\x00\x00\x00\x01\xff\x01a\x00",              // 255
		"\x53\x01\x00\x00\x00\x01\x01\x00\x00",               // no name
		"\x53\x01\x00\x00\x00\x01\x01\x01A\x00",              //
		"\x53\x01\x00\x00\x00\x01\x01\x0dabcdefghijklm\x00",  // 13 bytes
		"\x53\x01\x00\x00\x00\x01\x01\xffa\x00",              // a name that isn't there
		"\x53\x01\x00\x00\x00\x02\x02\x01a\x00\x01\x01b\x00", // falling
		"\x53\x01\x00\x00\x00\x02\x01\x01a\x00\x01\x01b\x00", // the same Id twice
		"\x53\x01\x00\x00\x00\x02\x01\x01a\x00\x02\x01a\x00", // the same name twice
		"\x53\x01\x00\x00\x00\x01\x01\x01a\x01",              // no field
		"\x53\x01\x00\x00\x00\x01\x01\x01a\xff",              //
		"\x53\x01\x00\x00\x00\x01\x01\x01a\x01\x01x\x01",     // no count
		"\x53\x01\x00\x00\x00\x01\x01\x01a\x00\x01x\x01\x01", // one too many
		"\x53\x01\x00\x00\x00\x01\x01\x01a\x01\x00\x01\x01",  // no name
		"\x53\x01\x00\x00\x00\x01\x01\x01a\x01\x01x\x00\x01", // no kind
		"\x53\x01\x00\x00\x00\x01\x01\x01a\x01\x01x\x0b\x01",
		"\x53\x01\x00\x00\x00\x01\x01\x01a\x01\x01x\xff\x01",
		"\x53\x01\x00\x00\x00\x01\x01\x01a\x01\x01x\x01\x00", // no count that can be
		"\x53\x01\x00\x00\x00\x01\x01\x01a\x01\x01x\x01\x09",
		"\x53\x01\x00\x00\x00\x01\x01\x01a\x01\x01x\x01\xff",
		"\x53\x01\x00\x00\x00\x01\x01\x01a\x02\x01x\x01\x01\x01x\x02\x01", // the same name twice
		written(scheme(1, comp(1, "a", many(9)...))),
		written(scheme(1, comp(1, "a", many(255)...))),
		written(scheme(1, comp(1, "a", long()...))),
		strings.Repeat("\x53", 1<<20),
		"\x53\x01\x00\x00\x00\xff" + strings.Repeat("\x01", 1<<20),
	} {
		if !refuses(b) {
			t.Error(i)
		}
	}
}

// TestFaultsAtTheLastComponent holds that all of the bytes is asked, not only
// what stands in front.
func TestFaultsAtTheLastComponent(t *testing.T) {
	for i, c := range []api.Comp{
		comp(24, ""), comp(24, "abcdefghij11"), comp(23, "a"), comp(25, "a"), comp(24, "a", many(9)...),
		comp(24, "a", long()...), comp(24, "a", of("x", 0, 1)), comp(24, "a", of("x", api.U8, 9)),
	} {
		s := greatest()
		s.Comps[23] = c
		if !refuses(written(s)) {
			t.Error(i)
		}
		s.Comps[23] = comp(24, "a", wide256()...)
		if !holds(written(s)) || refuses(written(s)) {
			t.Error(i)
		}
	}
}

// TestCountsAboveTheLimit holds that a count beyond the limit isn't taken for
// the limit, if just so many follow.
func TestCountsAboveTheLimit(t *testing.T) {
	b := written(greatest())
	last := len(b) - 1 - 8*(13+1+1)
	if b[5] != 24 || b[last] != 8 {
		t.Fatalf("%q", b)
	}
	for n := range 256 {
		count := string([]byte{byte(n)})
		if refuses(b[:5]+count+b[6:]) != (n != 24) {
			t.Error(n)
		}
		if refuses(b[:last]+count+b[last+1:]) != (n != 8) {
			t.Error(n)
		}
	}
}

func TestCutBytes(t *testing.T) {
	for _, b := range []string{threeBytes, written(greatest())} {
		for k := range len(b) {
			if !refuses(b[:k]) || k > 0 && !refuses(b[k:]) {
				t.Error(k)
			}
		}
		for n := range 256 {
			if !refuses(b + string([]byte{byte(n)})) {
				t.Error(n)
			}
		}
		if !refuses(b+b) || !refuses(b+strings.Repeat("\x00", 1<<16)) {
			t.Error("twice")
		}
	}
}

// TestTurnedBytes goes over all bytes that differ from a schema's in one
// place, or have one byte less or more.
func TestTurnedBytes(t *testing.T) {
	found := 0
	for _, s := range []api.Schema{scheme(1), scheme(1<<30, comp(1, "a"), comp(2, "b")), three()} {
		b := written(s)
		for at := range len(b) + 1 {
			if at < len(b) && !holds(b[:at]+b[at+1:]) {
				t.Errorf("%q without %d", b, at)
			}
			for n := range 256 {
				put := string([]byte{byte(n)})
				if !holds(b[:at] + put + b[at:]) {
					t.Errorf("%q with %d at %d", b, n, at)
				}
				if at == len(b) {
					continue
				}
				turned := b[:at] + put + b[at+1:]
				if !holds(turned) {
					t.Errorf("%q, %d turned to %d", b, at, n)
				}
				if !refuses(turned) {
					found++
				}
			}
		}
	}
	if found < 1000 {
		t.Error(found)
	}
}

// P8.3

// unlike are schemas that differ from three in one thing each.
func unlike() []api.Schema {
	list := []api.Schema{three()}
	change := func(f func(s *api.Schema)) {
		s := three()
		f(&s)
		list = append(list, s)
	}
	change(func(s *api.Schema) { s.Version = 8 })
	change(func(s *api.Schema) { s.Version = 7 + 256 })
	change(func(s *api.Schema) { s.Version = 7 + 1<<24 })
	change(func(s *api.Schema) { s.Comps = s.Comps[:2] })
	change(func(s *api.Schema) { s.Comps = s.Comps[1:] })
	change(func(s *api.Schema) { s.Comps = nil })
	change(func(s *api.Schema) { s.Comps[0].Id = 1 })
	change(func(s *api.Schema) { s.Comps[2].Id = 23 })
	change(func(s *api.Schema) { s.Comps[0].Name = "bodz" })
	change(func(s *api.Schema) { s.Comps[2].Name = "ta" })
	change(func(s *api.Schema) { s.Comps[0].Name, s.Comps[1].Name = "team", "body" })
	change(func(s *api.Schema) { s.Comps[0].Fields = s.Comps[0].Fields[:2] })
	change(func(s *api.Schema) { s.Comps[1].Fields = nil })
	change(func(s *api.Schema) { s.Comps[2].Fields = many(1) })
	change(func(s *api.Schema) { slices.Reverse(s.Comps[0].Fields) })
	change(func(s *api.Schema) { s.Comps[0].Fields, s.Comps[1].Fields = s.Comps[1].Fields, s.Comps[0].Fields })
	change(func(s *api.Schema) { s.Comps[0].Fields[0].Name = "pot" })
	change(func(s *api.Schema) { s.Comps[0].Fields[0].Kind = api.U32 })
	change(func(s *api.Schema) { s.Comps[0].Fields[0].Count = 1 })
	change(func(s *api.Schema) { s.Comps[1].Fields[1].Kind = api.U64 })
	change(func(s *api.Schema) { s.Comps[1].Fields[1].Count = 7 })
	return list
}

func TestUnlikeSchemas(t *testing.T) {
	seen := map[string]int{}
	for i, s := range unlike() {
		b, e := scode.Encode(s)
		if e != api.OK {
			t.Error(i, e)
		}
		if o, is := seen[b]; is {
			t.Error(i, o)
		}
		seen[b] = i
		if o, e := scode.Decode(b); e != api.OK || !schema.Same(o, s) {
			t.Error(i, o, e)
		}
	}
}

func TestNothingIsTheSameAsNil(t *testing.T) {
	a, e := scode.Encode(api.Schema{Version: 1, Comps: []api.Comp{{Id: 1, Name: "a", Fields: []api.Field{}}}})
	b, also := scode.Encode(api.Schema{Version: 1, Comps: []api.Comp{{Id: 1, Name: "a"}}})
	if e != api.OK || also != api.OK || a != b {
		t.Errorf("%q %q %d %d", a, b, e, also)
	}
	a, e = scode.Encode(api.Schema{Version: 1, Comps: []api.Comp{}})
	b, also = scode.Encode(api.Schema{Version: 1})
	if e != api.OK || also != api.OK || a != b {
		t.Errorf("%q %q %d %d", a, b, e, also)
	}
}

// someSchema is made of few names, ids and fields, so that they meet often.
func someSchema(dice *rand.Rand) api.Schema {
	names := []string{"a", "b", "c9", "abcdefghijkl", "", "A", "9", "abcdefghijklm"}
	name := func(oneOf int) string {
		if dice.IntN(oneOf) == 0 {
			return names[4+dice.IntN(4)]
		}
		return names[dice.IntN(4)]
	}
	s := api.Schema{Version: 1 + dice.IntN(3)}
	if dice.IntN(30) == 0 {
		s.Version = []int{0, -1, 1 << 30, 1<<30 + 1}[dice.IntN(4)]
	}
	id := dice.IntN(30) / 29
	for range dice.IntN(4) {
		id += 1 + dice.IntN(8) - dice.IntN(20)/19*8
		c := comp(id, name(30))
		for range dice.IntN(4) {
			f := of(name(30), api.Kind(1+dice.IntN(10)), 1+dice.IntN(8))
			if dice.IntN(40) == 0 {
				f.Kind, f.Count = api.Kind(dice.IntN(13)-1), dice.IntN(11)-1
			}
			c.Fields = append(c.Fields, f)
		}
		if dice.IntN(20) == 0 {
			c.Fields = append(c.Fields, many(dice.IntN(10))...)
		}
		if dice.IntN(20) == 0 {
			c.Fields = append(long(), c.Fields...)
		}
		s.Comps = append(s.Comps, c)
	}
	return s
}

// goodSchema is one that can be.
func goodSchema(dice *rand.Rand) api.Schema {
	for {
		if s := someSchema(dice); schema.Check(s) == api.OK {
			return s
		}
	}
}

func TestManySchemas(t *testing.T) {
	dice := rand.New(rand.NewPCG(1, 8))
	seen, bytes := map[api.Errno]int{}, map[string]api.Schema{}
	for range 100000 {
		s := someSchema(dice)
		want := schema.Check(s)
		seen[want]++
		b, e := scode.Encode(s)
		if e != want || e == api.OK && b != written(s) || e != api.OK && b != "" {
			t.Fatalf("%v %q %d %d", s, b, e, want)
		}
		if !holds(written(s)) || refuses(written(s)) != (want != api.OK) {
			t.Fatal(s)
		}
		if e != api.OK {
			continue
		}
		if o, is := bytes[b]; is && !schema.Same(o, s) {
			t.Fatal(s, o)
		}
		bytes[b] = s
	}
	for _, e := range []api.Errno{api.OK, api.ErrArg, api.ErrForm, api.ErrFull} {
		if seen[e] < 1000 {
			t.Error(e, seen)
		}
	}
	if len(bytes) < 1000 {
		t.Error(len(bytes))
	}
}

// someTurn makes few turns of some bytes.
func someTurn(dice *rand.Rand, s string) string {
	b := []byte(s)
	for range dice.IntN(4) {
		at := dice.IntN(len(b) + 1)
		n := byte(dice.IntN(26))
		if dice.IntN(4) == 0 {
			n = byte(dice.IntN(256))
		}
		switch {
		case at == len(b) || dice.IntN(3) == 0:
			b = slices.Insert(b, at, n)
		case dice.IntN(2) == 0:
			b[at] = n
		default:
			b = slices.Delete(b, at, at+1)
		}
	}
	return string(b)
}

func TestManyTurns(t *testing.T) {
	dice := rand.New(rand.NewPCG(2, 8))
	for range 100000 {
		if b := someTurn(dice, written(goodSchema(dice))); !holds(b) {
			t.Fatalf("%q", b)
		}
	}
}

func FuzzDecode(f *testing.F) {
	f.Add("")
	f.Add(threeBytes)
	f.Add("\x53\x01\x00\x00\x00\x00")
	f.Add("\x53\x01\x00\x00\x00\xff")
	f.Add(written(greatest()))
	f.Fuzz(func(t *testing.T, bytes string) {
		if !holds(bytes) {
			t.Fatalf("%q", bytes)
		}
	})
}

// Rule 3 of DOC.md

func TestSchemasStay(t *testing.T) {
	s, stays := kept(three())
	if _, e := scode.Encode(s); e != api.OK || !stays() {
		t.Error(s, e)
	}
	s, stays = kept(scheme(1, comp(1, "a"), comp(1, "b", long()...)))
	if _, e := scode.Encode(s); e != api.ErrArg || !stays() {
		t.Error(s, e)
	}
}

// spoil turns all that a schema has.
func spoil(s api.Schema) {
	for i := range s.Comps {
		for j := range s.Comps[i].Fields {
			s.Comps[i].Fields[j] = of("spoilt", 55, 55)
		}
		s.Comps[i] = comp(55, "spoilt")
	}
}

func TestDecodedSchemasAreNew(t *testing.T) {
	first, e := scode.Decode(threeBytes)
	second, also := scode.Decode(threeBytes)
	if e != api.OK || also != api.OK {
		t.Fatal(e, also)
	}
	spoil(first)
	if !schema.Same(second, three()) {
		t.Error(second)
	}
	if third, e := scode.Decode(threeBytes); e != api.OK || !schema.Same(third, three()) {
		t.Error(third, e)
	}
}

func TestListsOfOneSchemaGoApart(t *testing.T) {
	s, e := scode.Decode(written(greatest()))
	if e != api.OK {
		t.Fatal(e)
	}
	for i := range s.Comps {
		_ = append(s.Comps[i].Fields, of("behind", 55, 55))
		_ = append(s.Comps[:i+1:i+1], comp(55, "behind"))
	}
	if !schema.Same(s, greatest()) {
		t.Error(s)
	}
	s.Comps[3].Fields[7].Count = 1
	want := greatest()
	want.Comps[3].Fields[7].Count = 1
	if !schema.Same(s, want) {
		t.Error(s)
	}
}

// TestRowsOfRoom holds that the greatest fields used here are at the limit.
func TestRowsOfRoom(t *testing.T) {
	if p, e := layout.Of(wide256()); e != api.OK || p.Size != 256 {
		t.Error(p, e)
	}
	if e := layout.Check(long()); e != api.ErrFull {
		t.Error(e)
	}
}
