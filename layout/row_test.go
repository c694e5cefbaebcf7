package layout_test

import (
	"math/rand/v2"
	"slices"
	"strings"
	"testing"

	"retrofit/api"
	"retrofit/field"
	"retrofit/layout"
	"retrofit/wide"
)

func numbers(list ...int) []api.Int {
	val := []api.Int{}
	for _, n := range list {
		val = append(val, wide.Of(n))
	}
	return val
}

// someNumber fits a kind; the bounds come often.
func someNumber(dice *rand.Rand, k api.Kind) api.Int {
	switch dice.IntN(5) {
	case 0:
		return field.Least(k)
	case 1:
		return field.Greatest(k)
	case 2:
		return field.Clamp(k, wide.Of(-1))
	}
	x := wide.OfWord(dice.Uint64() >> dice.IntN(64))
	if dice.IntN(2) == 0 {
		x = wide.Neg(x)
	}
	return field.Clamp(k, x)
}

func someValue(dice *rand.Rand, list []api.Field) []api.Int {
	val := []api.Int{}
	for _, k := range elems(list) {
		val = append(val, someNumber(dice, k))
	}
	return val
}

// places are where each element begins.
func places(list []api.Field) []int {
	_, at := laid(list)
	all := []int{}
	for i, f := range list {
		for n := range f.Count {
			all = append(all, at[i]+n*bytesOf(f.Kind))
		}
	}
	return all
}

// gaps are the places of all bytes that are no element's.
func gaps(list []api.Field) []int {
	size, _ := laid(list)
	taken := make([]bool, size)
	kind := elems(list)
	for i, at := range places(list) {
		for n := range bytesOf(kind[i]) {
			taken[at+n] = true
		}
	}
	all := []int{}
	for at, is := range taken {
		if !is {
			all = append(all, at)
		}
	}
	return all
}

// packed lays each element's bytes into a row of noughts.
func packed(list []api.Field, val []api.Int) string {
	size, _ := laid(list)
	row := make([]byte, size)
	kind := elems(list)
	for i, at := range places(list) {
		s, e := field.Put(kind[i], val[i])
		if e != api.OK {
			panic("it doesn't fit")
		}
		copy(row[at:], s)
	}
	return string(row)
}

// isRow: whether a value has just this row, both ways.
func isRow(list []api.Field, val []api.Int, want string) bool {
	s, e := layout.Pack(list, val)
	back, f := layout.Unpack(list, want)
	return layout.Fit(list, val) == api.OK && e == api.OK && s == want && f == api.OK && slices.Equal(back, val)
}

func isNoValue(list []api.Field, val []api.Int, want api.Errno) bool {
	s, e := layout.Pack(list, val)
	return layout.Fit(list, val) == want && e == want && s == ""
}

func isNoRow(list []api.Field, s string, want api.Errno) bool {
	val, e := layout.Unpack(list, s)
	return e == want && len(val) == 0
}

func withByte(s string, at int, b byte) string { return s[:at] + string([]byte{b}) + s[at+1:] }

// P5.2

func TestRowsByHand(t *testing.T) {
	for i, x := range []struct {
		list []api.Field
		val  []api.Int
		want string
	}{
		{fields(of(api.U8, 1), of(api.I32, 1), of(api.U8, 1)), numbers(7, -2, 9), "\x07\x00\x00\x00\xfe\xff\xff\xff\x09\x00\x00\x00"},
		{nil, nil, ""},
		{fields(), numbers(), ""},
		{fields(of(api.Bool, 2), of(api.I16, 1), of(api.U8, 1)), numbers(1, 0, -2, 9), "\x01\x00\xfe\xff\x09\x00"},
		{fields(of(api.U16, 3)), numbers(1, 258, 65535), "\x01\x00\x02\x01\xff\xff"},
		{fields(of(api.I8, 3), of(api.U16, 2)), numbers(-1, 0, 127, 1, 2), "\xff\x00\x7f\x00\x01\x00\x02\x00"},
		{fields(of(api.Bool, 1), of(api.Ref, 1)), numbers(1, 1<<32+7), "\x01\x00\x00\x00\x00\x00\x00\x00\x07\x00\x00\x00\x01\x00\x00\x00"},
		{fields(of(api.I64, 1), of(api.I8, 1)), numbers(minInt, -128), "\x00\x00\x00\x00\x00\x00\x00\x80\x80\x00\x00\x00\x00\x00\x00\x00"},
	} {
		if !isRow(x.list, x.val, x.want) {
			t.Error(i)
		}
	}
}

// Each kind's bounds fit, at each place of a value, and what is beside doesn't.
func TestFitAtBounds(t *testing.T) {
	one := wide.Of(1)
	for _, x := range kinds {
		list := fields(of(api.U8, 1), of(x.k, 3), of(api.I16, 2))
		for at := 1; at <= 3; at++ {
			for _, bound := range []struct {
				in  api.Int
				out func(x, y api.Int) (api.Int, api.Errno)
			}{{field.Least(x.k), wide.Sub}, {field.Greatest(x.k), wide.Add}} {
				val := layout.Zero(list)
				val[at] = bound.in
				if !isRow(list, val, packed(list, val)) {
					t.Error(x.k, at)
				}
				val[at], _ = bound.out(bound.in, one)
				if !isNoValue(list, val, api.ErrRange) {
					t.Error(x.k, at)
				}
			}
		}
	}
}

// A number fits its own field's kind, not the one beside it.
func TestFitFieldByField(t *testing.T) {
	list := fields(of(api.U8, 1), of(api.I8, 2), of(api.Bool, 1), of(api.U64, 1))
	for i, x := range []struct {
		val  []api.Int
		want api.Errno
	}{
		{numbers(255, -128, 127, 1, maxInt), api.OK},
		{numbers(256, 0, 0, 0, 0), api.ErrRange},
		{numbers(-1, 0, 0, 0, 0), api.ErrRange},
		{numbers(0, 128, 0, 0, 0), api.ErrRange},
		{numbers(0, 0, 255, 0, 0), api.ErrRange},
		{numbers(0, 0, 0, 2, 0), api.ErrRange},
		{numbers(0, 0, 0, -1, 0), api.ErrRange},
		{numbers(0, 0, 0, 0, -1), api.ErrRange},
	} {
		if x.want != api.OK {
			if !isNoValue(list, x.val, x.want) {
				t.Error(i)
			}
		} else if !isRow(list, x.val, packed(list, x.val)) {
			t.Error(i)
		}
	}
}

func TestFitOfFormless(t *testing.T) {
	for _, y := range []api.Int{
		{Neg: true}, {Hi: 1 << 63}, {Neg: true, Hi: 1 << 63, Lo: 1}, {Hi: 1<<64 - 1, Lo: 1<<64 - 1}, {Hi: 1}, {Neg: true, Hi: 1},
	} {
		for _, x := range kinds {
			list := fields(of(x.k, 2))
			if !isNoValue(list, []api.Int{y, {}}, api.ErrRange) || !isNoValue(list, []api.Int{{}, y}, api.ErrRange) {
				t.Error(x.k, y)
			}
		}
	}
}

func TestFitOfOtherLength(t *testing.T) {
	dice := rand.New(rand.NewPCG(2, 5))
	tooGreat := api.Int{Hi: 1}
	for range 300 {
		list := fittingFields(dice)
		for n := range 70 {
			if n == len(elems(list)) {
				continue
			}
			// That they don't fit either isn't told.
			if !isNoValue(list, make([]api.Int, n), api.ErrForm) || !isNoValue(list, slices.Repeat([]api.Int{tooGreat}, n), api.ErrForm) {
				t.Fatal(n, list)
			}
		}
		if n := len(elems(list)); n > 0 && !isNoValue(list, slices.Repeat([]api.Int{tooGreat}, n), api.ErrRange) {
			t.Fatal(n, list)
		}
	}
	if !isNoValue(fields(of(api.U8, 1)), make([]api.Int, 1<<16), api.ErrForm) {
		t.Error("many")
	}
}

func TestRowsOfWrongFields(t *testing.T) {
	for _, x := range wrong() {
		for _, n := range []int{0, 1, 2, 33} {
			zeros, tooGreat := make([]api.Int, n), slices.Repeat([]api.Int{{Hi: 1}}, n)
			if !isNoValue(x.list, zeros, x.want) || !isNoValue(x.list, tooGreat, x.want) {
				t.Fatal(n, x.list)
			}
		}
		for _, n := range []int{0, 1, 8, 256, 257, 264, 512} {
			if !isNoRow(x.list, strings.Repeat("\x00", n), x.want) || !isNoRow(x.list, strings.Repeat("\xff", n), x.want) {
				t.Fatal(n, x.list)
			}
		}
	}
}

func TestUnpackOfOtherLength(t *testing.T) {
	dice := rand.New(rand.NewPCG(3, 5))
	for range 300 {
		list := fittingFields(dice)
		size, _ := laid(list)
		for n := range 300 {
			if n != size && !isNoRow(list, strings.Repeat("\x00", n), api.ErrForm) {
				t.Fatal(n, list)
			}
		}
	}
	for i, s := range []string{"", "\x07\x00\x00\x00\xfe\xff\xff\xff\x09", "\x07\xfe\xff\xff\xff\x09"} {
		if !isNoRow(fields(of(api.U8, 1), of(api.I32, 1), of(api.U8, 1)), s, api.ErrForm) {
			t.Error(i)
		}
	}
	if !isNoRow(nil, "\x00", api.ErrForm) || !isNoRow(fields(of(api.U8, 1)), strings.Repeat("\x00", 1<<20), api.ErrForm) {
		t.Error("more")
	}
}

func TestUnpackOfFilledGaps(t *testing.T) {
	dice := rand.New(rand.NewPCG(4, 5))
	seen := 0
	for range 100 {
		list := fittingFields(dice)
		s := packed(list, someValue(dice, list))
		for _, at := range gaps(list) {
			for b := 1; b < 256; b++ {
				if !isNoRow(list, withByte(s, at, byte(b)), api.ErrForm) {
					t.Fatal(at, b, list)
				}
			}
			seen++
		}
	}
	if seen == 0 {
		t.Error("no gaps")
	}
}

func TestUnpackOfNoBools(t *testing.T) {
	list := fields(of(api.Bool, 3), of(api.I32, 1), of(api.Bool, 2), of(api.U8, 1))
	kind := elems(list)
	s := packed(list, layout.Zero(list))
	for i, at := range places(list) {
		for b := 2; b < 256; b++ {
			got := withByte(s, at, byte(b))
			if kind[i] == api.Bool && !isNoRow(list, got, api.ErrForm) {
				t.Fatal(i, b)
			}
			if val, e := layout.Unpack(list, got); kind[i] != api.Bool && (e != api.OK || !isRow(list, val, got)) {
				t.Fatal(i, b)
			}
		}
	}
}

// P5.3

func TestPackedIsUnpacked(t *testing.T) {
	dice := rand.New(rand.NewPCG(5, 5))
	for range 5000 {
		list := fittingFields(dice)
		val := someValue(dice, list)
		if !isRow(list, val, packed(list, val)) {
			t.Fatal(list, val)
		}
	}
}

// Whichever byte of a row is turned, it is none, or that of another value.
func TestTurnedRows(t *testing.T) {
	dice := rand.New(rand.NewPCG(6, 5))
	for range 300 {
		list := fittingFields(dice)
		val := someValue(dice, list)
		s := packed(list, val)
		for at := range s {
			turned := withByte(s, at, s[at]^byte(1+dice.IntN(255)))
			other, e := layout.Unpack(list, turned)
			if e != api.OK {
				if !isNoRow(list, turned, api.ErrForm) {
					t.Fatal(at, list)
				}
			} else if slices.Equal(other, val) || !isRow(list, other, turned) {
				t.Fatal(at, list)
			}
		}
	}
}

// An element alone, with all its bits, shows which bytes are its own.
func TestNoSharedBytes(t *testing.T) {
	dice := rand.New(rand.NewPCG(7, 5))
	for range 500 {
		list := fittingFields(dice)
		size, _ := laid(list)
		owner := make([]int, size)
		for i, k := range elems(list) {
			val := layout.Zero(list)
			val[i] = field.Clamp(k, wide.Of(-1))
			if field.Least(k) == (api.Int{}) {
				val[i] = field.Greatest(k)
			}
			s, e := layout.Pack(list, val)
			if e != api.OK || len(s) != size {
				t.Fatal(i, e, list)
			}
			own := 0
			for at := range s {
				if s[at] == 0 {
					continue
				}
				if owner[at] != 0 {
					t.Fatal(i, owner[at]-1, at, list)
				}
				owner[at] = i + 1
				own++
			}
			if own != bytesOf(k) {
				t.Fatal(i, own, list)
			}
		}
	}
}

func TestValuesStay(t *testing.T) {
	room := fields(of(api.U8, 1), of(api.I32, 2), of(api.U8, 1), of(99, 99))
	wasRoom := slices.Clone(room)
	vals := numbers(1, 2, 3, 4, 5)
	wasVals := slices.Clone(vals)
	list, val := room[1:3], vals[1:4]
	s, e := layout.Pack(list, val)
	if e != api.OK || layout.Fit(list, val) != api.OK {
		t.Fatal(e)
	}
	one, _ := layout.Unpack(list, s)
	one[0].Lo = 77
	if two, e := layout.Unpack(list, s); e != api.OK || !slices.Equal(two, val) {
		t.Error(two, e)
	}
	if !slices.Equal(room, wasRoom) || !slices.Equal(vals, wasVals) {
		t.Error(room, vals)
	}
}

// FuzzRows: any fields, values and bytes; what can be unpacked is packed just
// so again, and what is packed is unpacked.
func FuzzRows(f *testing.F) {
	f.Add(6, 1, 4, 1, 6, 1, "\x07\x00\x00\x00\xfe\xff\xff\xff\x09\x00\x00\x00", false, uint64(0), uint64(1))
	f.Add(1, 2, 3, 1, 9, 8, strings.Repeat("\x01", 72), true, uint64(0), uint64(1))
	f.Add(0, 0, 11, 9, -1, -1, "", true, uint64(1<<63), uint64(0))
	f.Fuzz(func(t *testing.T, k1, n1, k2, n2, k3, n3 int, s string, neg bool, hi, lo uint64) {
		list := fields(of(api.Kind(k1), n1), of(api.Kind(k2), n2), of(api.Kind(k3), n3))
		if e := layout.Check(list); e != api.OK {
			if !isWrong(list, e) || !isNoRow(list, s, e) || !isNoValue(list, nil, e) {
				t.Fatal(list)
			}
			return
		}
		if !isLaid(list) {
			t.Fatal(list)
		}
		if val, e := layout.Unpack(list, s); e == api.OK && !isRow(list, val, s) || e != api.OK && !isNoRow(list, s, api.ErrForm) {
			t.Fatal(list, e)
		}
		val := slices.Repeat([]api.Int{{Neg: neg, Hi: hi, Lo: lo}}, n1+n2+n3)
		if e := layout.Fit(list, val); e == api.OK && !isRow(list, val, packed(list, val)) || e != api.OK && !isNoValue(list, val, api.ErrRange) {
			t.Fatal(list, e)
		}
	})
}
