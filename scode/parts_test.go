package scode_test

import (
	"math/rand/v2"
	"reflect"
	"slices"
	"strings"
	"testing"

	"retrofit/api"
	"retrofit/field"
	"retrofit/layout"
	"retrofit/schema"
	"retrofit/scode"
	"retrofit/wide"
)

func part(id int, list ...int) api.Part {
	p := api.Part{Comp: id}
	for _, n := range list {
		p.Val = append(p.Val, wide.Of(n))
	}
	return p
}

func parts(list ...api.Part) []api.Part { return list }

// good is a part of each of three's components.
func good() []api.Part {
	return parts(part(2, -1, 258, 65535, 1), part(5, 255, 0, 1, 2, 3, 4, 5, 6, maxInt), part(24))
}

// noughts are n bytes that are no element's, or a nought's.
func noughts(n int) string { return strings.Repeat("\x00", n) }

// number is a number of 8 bytes whose size is below 256.
func number(n byte) string { return string([]byte{n}) + noughts(7) }

const bodyRow = "\xff\xff\xff\xff" + "\x02\x01\x00\x00" + "\xff\xff" + "\x01" + "\x00"

func teamRow() string {
	return "\xff" + noughts(7) + number(0) + number(1) + number(2) + number(3) + number(4) + number(5) + number(6) +
		"\xff\xff\xff\xff\xff\xff\xff\x7f"
}

func goodBytes() string { return "\x03" + "\x02" + bodyRow + "\x05" + teamRow() + "\x18" }

func sameParts(a, b []api.Part) bool {
	return slices.EqualFunc(a, b, func(x, y api.Part) bool {
		return x.Comp == y.Comp && slices.Equal(x.Val, y.Val)
	})
}

// refusesParts: whether there are no parts with these bytes.
func refusesParts(s api.Schema, bytes string) bool {
	list, e := scode.DecodeParts(s, bytes)
	return e == api.ErrForm && len(list) == 0
}

// writtenParts are the bytes as the document tells them; it asks that the
// parts are right.
func writtenParts(s api.Schema, list []api.Part) string {
	b := []byte{byte(len(list))}
	for _, p := range list {
		for _, c := range s.Comps {
			if c.Id == p.Comp {
				row, _ := layout.Pack(c.Fields, p.Val)
				b = append(append(b, byte(p.Comp)), row...)
			}
		}
	}
	return string(b)
}

// readParts is a second reading of what parts' bytes are; false: of none. It
// asks that the schema can be.
func readParts(s api.Schema, bytes string) ([]api.Part, bool) {
	x := &scan{rest: bytes}
	left, list := x.one(), []api.Part{}
	// Rising parts stand in the order of the components.
	for _, c := range s.Comps {
		if left == 0 || x.rest == "" || int(x.rest[0]) != c.Id {
			continue
		}
		left--
		id := x.one()
		plan, _ := layout.Of(c.Fields)
		val, e := layout.Unpack(c.Fields, x.cut(plan.Size))
		if e != api.OK {
			return nil, false
		}
		list = append(list, api.Part{Comp: id, Val: val})
	}
	return list, left == 0 && !x.short && x.rest == ""
}

// holdsParts: whether DecodeParts answers what the second reading does.
func holdsParts(s api.Schema, bytes string) bool {
	want, is := readParts(s, bytes)
	if !is {
		return refusesParts(s, bytes)
	}
	list, e := scode.DecodeParts(s, bytes)
	if e != api.OK || !sameParts(list, want) {
		return false
	}
	again, e := scode.EncodeParts(s, list)
	return e == api.OK && again == bytes
}

// P8.2

func TestPartsByHand(t *testing.T) {
	for i, x := range []struct {
		s    api.Schema
		list []api.Part
		want string
	}{
		{scheme(1), nil, "\x00"},
		{three(), parts(), "\x00"},
		{three(), parts(part(24)), "\x01\x18"},
		{three(), good()[:1], "\x01\x02" + bodyRow},
		{three(), good()[1:2], "\x01\x05" + teamRow()},
		{three(), parts(part(2, 0, 0, 0, 0), part(24)), "\x02\x02" + noughts(12) + "\x18"},
		{three(), parts(part(2, -1<<31, 1<<31-1, 256, 0)), "\x01\x02\x00\x00\x00\x80\xff\xff\xff\x7f\x00\x01\x00\x00"},
		{three(), good(), goodBytes()},
		{scheme(1, comp(1, "a"), comp(2, "b")), parts(part(1), part(2)), "\x02\x01\x02"},
		{scheme(1, comp(1, "a", of("x", api.U8, 2))), parts(part(1, 1, 2)), "\x01\x01\x01\x02"},
		{scheme(1, comp(1, "a", of("x", api.I8, 1))), parts(part(1, -128)), "\x01\x01\x80"},
	} {
		if b, e := scode.EncodeParts(x.s, x.list); e != api.OK || b != x.want {
			t.Errorf("%d %q %d", i, b, e)
		}
		if list, e := scode.DecodeParts(x.s, x.want); e != api.OK || !sameParts(list, x.list) {
			t.Error(i, list, e)
		}
	}
}

func TestNumbersAtTheirEnds(t *testing.T) {
	for k := api.Bool; k <= api.Ref; k++ {
		s := scheme(1, comp(7, "a", of("x", k, 2)))
		least, greatest := field.Least(k), field.Greatest(k)
		list := parts(api.Part{Comp: 7, Val: []api.Int{least, greatest}})
		b, e := scode.EncodeParts(s, list)
		if e != api.OK || len(b) != 2+2*field.Size(k) || b != writtenParts(s, list) {
			t.Errorf("%d %q %d", k, b, e)
		}
		if o, e := scode.DecodeParts(s, b); e != api.OK || !sameParts(o, list) {
			t.Error(k, o, e)
		}
		below, _ := wide.Sub(least, wide.Of(1))
		above, _ := wide.Add(greatest, wide.Of(1))
		for _, n := range []api.Int{below, above, {Neg: true}, {Hi: 1 << 63}} {
			list[0].Val[1] = n
			if b, e := scode.EncodeParts(s, list); e != api.ErrRange || b != "" {
				t.Errorf("%d %v %q %d", k, n, b, e)
			}
		}
	}
}

func TestRowsOf256Bytes(t *testing.T) {
	s, list := scheme(1), []api.Part{}
	for id := 1; id <= 24; id++ {
		s.Comps = append(s.Comps, comp(id, "c"+string(rune('a'+id-1)), wide256()...))
		p := part(id)
		for n := range 32 {
			p.Val = append(p.Val, wide.OfWord(uint64(id)<<56+uint64(n)))
		}
		list = append(list, p)
	}
	b, e := scode.EncodeParts(s, list)
	if e != api.OK || len(b) != 1+24*257 || b != writtenParts(s, list) {
		t.Error(len(b), e)
	}
	if o, e := scode.DecodeParts(s, b); e != api.OK || !sameParts(o, list) {
		t.Error(o, e)
	}
	for k := range len(b) {
		if !refusesParts(s, b[:k]) {
			t.Error(k)
		}
	}
}

func TestAllComponents(t *testing.T) {
	s, list := scheme(1), []api.Part{}
	for id := 1; id <= 24; id++ {
		s.Comps = append(s.Comps, comp(id, "c"+string(rune('a'+id-1)), of("x", api.I8, 1)))
		list = append(list, part(id, -id))
	}
	b, e := scode.EncodeParts(s, list)
	if e != api.OK || b != writtenParts(s, list) || len(b) != 49 {
		t.Errorf("%q %d", b, e)
	}
	if o, e := scode.DecodeParts(s, b); e != api.OK || !sameParts(o, list) {
		t.Error(o, e)
	}
	for n := range 256 {
		if n != 24 && !refusesParts(s, string([]byte{byte(n)})+b[1:]) {
			t.Error(n)
		}
		if !refusesParts(s, string([]byte{25})+b[1:]+string([]byte{byte(n), 0})) {
			t.Error(n)
		}
	}
	for i := 1; i < 24; i++ {
		swapped := slices.Clone(list)
		swapped[i-1], swapped[i] = swapped[i], swapped[i-1]
		if o, e := scode.EncodeParts(s, swapped); e != api.ErrForm || o != "" {
			t.Errorf("%d %q %d", i, o, e)
		}
		if !refusesParts(s, writtenParts(s, swapped)) {
			t.Error(i)
		}
		twice := slices.Clone(list)
		twice[i] = twice[i-1]
		if o, e := scode.EncodeParts(s, twice); e != api.ErrArg || o != "" {
			t.Errorf("%d %q %d", i, o, e)
		}
		if !refusesParts(s, writtenParts(s, twice)) {
			t.Error(i)
		}
	}
	if o, e := scode.EncodeParts(s, slices.Repeat(list, 10000)); e != api.ErrArg || o != "" {
		t.Error(len(o), e)
	}
}

func TestSchemasOfPartsThatCantBe(t *testing.T) {
	for want, list := range wrong() {
		for i, s := range list {
			for _, p := range [][]api.Part{nil, {part(1)}, {part(1), part(1)}, {part(99)}, {part(2), part(1)}} {
				if b, e := scode.EncodeParts(s, p); e != want || b != "" {
					t.Errorf("%d %d %q %d", want, i, b, e)
				}
			}
			for _, b := range []string{"", "\x00", "\x01\x01", "\x01\x01\x00", "\xff", goodBytes()} {
				if o, e := scode.DecodeParts(s, b); e != want || len(o) != 0 {
					t.Error(want, i, o, e)
				}
			}
		}
	}
}

func TestErrorsOfParts(t *testing.T) {
	g := good()
	for i, x := range []struct {
		list []api.Part
		want api.Errno
	}{
		{parts(part(1)), api.ErrNone},
		{parts(part(0)), api.ErrNone},
		{parts(part(-2, 0, 0, 0, 0)), api.ErrNone},
		{parts(part(256+2, 0, 0, 0, 0)), api.ErrNone},
		{parts(part(minInt)), api.ErrNone},
		{parts(part(maxInt)), api.ErrNone},
		{parts(part(2)), api.ErrForm},
		{parts(part(2, 0, 0, 0)), api.ErrForm},
		{parts(part(2, 0, 0, 0, 0, 0)), api.ErrForm},
		{parts(part(24, 0)), api.ErrForm},
		{parts(part(2, 1<<31, 0, 0, 0)), api.ErrRange},
		{parts(part(2, 0, 0, -1, 0)), api.ErrRange},
		{parts(part(2, 0, 0, 0, 2)), api.ErrRange},
		{parts(g[0], g[0]), api.ErrArg},
		{parts(g[0], g[1], g[0]), api.ErrArg},
		{parts(g[1], g[0]), api.ErrForm},
		{parts(g[2], g[1]), api.ErrForm},
		{parts(g[2], g[0]), api.ErrForm},
		{parts(g[0], g[2], g[1]), api.ErrForm},
		{parts(g[1], g[0], g[2]), api.ErrForm},
		{parts(g[2], g[1], g[0]), api.ErrForm},

		// What CheckParts says is told ahead of the order, wherever it is.
		{parts(g[1], g[0], part(1)), api.ErrNone},
		{parts(g[1], g[0], g[1]), api.ErrArg},
		{parts(g[2], g[1], g[1]), api.ErrArg},
		{parts(g[2], part(2, 0, 0, 0, 2)), api.ErrRange},
		{parts(g[2], g[1], part(2, 0, 0, 0, 2)), api.ErrRange},
		{parts(part(24), part(24, 1)), api.ErrArg},
		{parts(part(1), g[0], g[0]), api.ErrNone},
		{parts(part(2, 0, 0, 0, 2), g[0]), api.ErrRange},
	} {
		if b, e := scode.EncodeParts(three(), x.list); e != x.want || b != "" {
			t.Errorf("%d %q %d", i, b, e)
		}
	}
}

func TestBytesThatAreNoParts(t *testing.T) {
	row := func(change func(b []byte)) string {
		b := []byte(bodyRow)
		change(b)
		return "\x01\x02" + string(b)
	}
	for i, b := range []string{
		"",
		"\x01",
		"\xff",
		"\x00\x00",
		"\x00\x18",
		"\x02\x18",
		"\x01\x18\x18",
		"\x02\x18\x18",
		"\x01\x00",
		"\x01\x01",
		"\x01\x17",
		"\x01\x19",
		"\x01\xff",
		"\x01\x02",
		"\x01\x02" + bodyRow[1:],
		"\x01\x02" + bodyRow + "\x00",
		"\x02\x02" + bodyRow,
		"\x02\x02" + bodyRow + "\x02" + bodyRow,
		"\x02\x18\x02" + bodyRow,
		"\x02\x05" + teamRow() + "\x02" + bodyRow,
		"\x03\x02" + bodyRow + "\x18\x05" + teamRow(),
		"\x03\x05" + teamRow() + "\x02" + bodyRow + "\x18",
		"\x01\x05" + bodyRow,
		"\x01\x02" + teamRow(),
		row(func(b []byte) { b[10] = 2 }),
		row(func(b []byte) { b[10] = 255 }),
		row(func(b []byte) { b[11] = 1 }),
		"\x01\x05" + "\xff\x01" + teamRow()[2:],
		"\x01\x05" + teamRow()[:7] + "\x80" + teamRow()[8:],
		goodBytes()[1:],
		goodBytes() + "\x00",
		goodBytes() + goodBytes(),
		"\x03" + strings.Repeat("\x18", 1<<20),
	} {
		if !refusesParts(three(), b) {
			t.Error(i)
		}
	}
	if !refusesParts(scheme(1), "\x01\x01") || !refusesParts(scheme(1), "") || !refusesParts(scheme(1), "\x01") {
		t.Error("of no components")
	}
}

func TestTurnedBytesOfParts(t *testing.T) {
	found := 0
	for _, x := range []struct {
		s    api.Schema
		list []api.Part
	}{
		{three(), nil},
		{three(), good()},
		{three(), parts(good()[0], good()[2])},
		{scheme(1, comp(1, "a"), comp(2, "b", of("x", api.Bool, 3)), comp(3, "c")), parts(part(1), part(2, 0, 1, 0), part(3))},
	} {
		b := writtenParts(x.s, x.list)
		for at := range len(b) + 1 {
			if at < len(b) && (!refusesParts(x.s, b[:at]) || !holdsParts(x.s, b[:at]+b[at+1:])) {
				t.Errorf("%q without %d", b, at)
			}
			for n := range 256 {
				put := string([]byte{byte(n)})
				if !holdsParts(x.s, b[:at]+put+b[at:]) {
					t.Errorf("%q with %d at %d", b, n, at)
				}
				if at == len(b) {
					continue
				}
				turned := b[:at] + put + b[at+1:]
				if !holdsParts(x.s, turned) {
					t.Errorf("%q, %d turned to %d", b, at, n)
				}
				if !refusesParts(x.s, turned) {
					found++
				}
			}
		}
	}
	if found < 1000 {
		t.Error(found)
	}
}

// P8.3

// someParts are mostly right, and mostly rise.
func someParts(dice *rand.Rand, s api.Schema) []api.Part {
	list := []api.Part{}
	for _, c := range s.Comps {
		if dice.IntN(4) == 0 {
			continue
		}
		p := api.Part{Comp: c.Id, Val: layout.Zero(c.Fields)}
		for i := range p.Val {
			p.Val[i] = wide.Of(dice.IntN(2))
			if dice.IntN(50) == 0 {
				p.Val[i] = wide.Of(dice.IntN(3000) - 1000)
			}
		}
		if dice.IntN(20) == 0 {
			p.Val = append(p.Val, api.Int{})
		}
		list = append(list, p)
	}
	if len(list) > 1 && dice.IntN(5) == 0 {
		list[0], list[len(list)-1] = list[len(list)-1], list[0]
	}
	if len(list) > 0 && dice.IntN(15) == 0 {
		list = append(list, list[dice.IntN(len(list))])
	}
	if dice.IntN(15) == 0 {
		list = slices.Insert(list, dice.IntN(len(list)+1), part(dice.IntN(30)-2))
	}
	return list
}

// partsError goes the way of P8.2's sentence.
func partsError(s api.Schema, list []api.Part) api.Errno {
	if e := schema.Check(s); e != api.OK {
		return e
	}
	if e := schema.CheckParts(s, list); e != api.OK {
		return e
	}
	if !slices.IsSortedFunc(list, func(a, b api.Part) int { return a.Comp - b.Comp }) {
		return api.ErrForm
	}
	return api.OK
}

func TestManyParts(t *testing.T) {
	dice := rand.New(rand.NewPCG(3, 8))
	seen := map[api.Errno]int{}
	for range 100000 {
		s := someSchema(dice)
		list := someParts(dice, s)
		want := partsError(s, list)
		seen[want]++
		b, e := scode.EncodeParts(s, list)
		if e != want || e == api.OK && b != writtenParts(s, list) || e != api.OK && b != "" {
			t.Fatalf("%v %v %q %d %d", s, list, b, e, want)
		}
		if e != api.OK {
			continue
		}
		if o, e := scode.DecodeParts(s, b); e != api.OK || !sameParts(o, list) || !holdsParts(s, b) {
			t.Fatal(s, list, o, e)
		}
		if b = someTurn(dice, b); !holdsParts(s, b) {
			t.Fatalf("%v %q", s, b)
		}
	}
	for _, e := range []api.Errno{api.OK, api.ErrArg, api.ErrForm, api.ErrRange, api.ErrFull, api.ErrNone} {
		if seen[e] < 500 {
			t.Error(e, seen)
		}
	}
}

func FuzzDecodeParts(f *testing.F) {
	f.Add(uint64(0), "")
	f.Add(uint64(0), "\x00")
	f.Add(uint64(0), goodBytes())
	f.Add(uint64(1), "\x01\x01\x00")
	f.Fuzz(func(t *testing.T, seed uint64, bytes string) {
		s := three()
		if seed != 0 {
			s = goodSchema(rand.New(rand.NewPCG(seed, 8)))
		}
		if !holdsParts(s, bytes) {
			t.Fatalf("%v %q", s, bytes)
		}
	})
}

// Rule 3 of DOC.md

func TestPartsStay(t *testing.T) {
	roomy := func() []api.Part {
		return parts(part(2, 1, 2, 3, 1), part(24), part(2, 5, 6, 7, 0), part(5, 8), part(9, 9))
	}
	s, stays := kept(three())
	list := roomy()
	for _, x := range []struct {
		list []api.Part
		want api.Errno
	}{
		{list[:2], api.OK},
		{list[:3], api.ErrArg},
		{list[1:3], api.ErrForm},
		{parts(api.Part{Comp: 5, Val: list[2].Val[:1]}), api.ErrForm},
	} {
		if _, e := scode.EncodeParts(s, x.list); e != x.want {
			t.Error(e, x.want)
		}
	}
	if o, e := scode.DecodeParts(s, goodBytes()); e != api.OK || !sameParts(o, good()) {
		t.Error(o, e)
	}
	if !refusesParts(s, goodBytes()[1:]) {
		t.Error("of wrong bytes")
	}
	if !stays() || !reflect.DeepEqual(list, roomy()) {
		t.Error(s, list)
	}
}

func TestDecodedPartsAreNew(t *testing.T) {
	first, e := scode.DecodeParts(three(), goodBytes())
	second, also := scode.DecodeParts(three(), goodBytes())
	if e != api.OK || also != api.OK {
		t.Fatal(e, also)
	}
	for i := range first {
		_ = append(first[i].Val, wide.Of(99))
		_ = append(first[:i+1:i+1], part(99))
	}
	if !sameParts(first, good()) {
		t.Error(first)
	}
	for i := range first {
		for j := range first[i].Val {
			first[i].Val[j] = wide.Of(99)
		}
		first[i].Comp = 99
	}
	if !sameParts(second, good()) {
		t.Error(second)
	}
	if third, e := scode.DecodeParts(three(), goodBytes()); e != api.OK || !sameParts(third, good()) {
		t.Error(third, e)
	}
}
