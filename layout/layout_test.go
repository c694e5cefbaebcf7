package layout_test

import (
	"math/rand/v2"
	"slices"
	"testing"

	"retrofit/api"
	"retrofit/layout"
)

const (
	maxInt = 1<<63 - 1
	minInt = -1 << 63
)

// kinds are all that there are, with their bytes.
var kinds = []struct {
	k     api.Kind
	bytes int
}{
	{api.Bool, 1},
	{api.I8, 1},
	{api.I16, 2},
	{api.I32, 4},
	{api.I64, 8},
	{api.U8, 1},
	{api.U16, 2},
	{api.U32, 4},
	{api.U64, 8},
	{api.Ref, 8},
}

func bytesOf(k api.Kind) int { return kinds[k-1].bytes }

func of(k api.Kind, n int) api.Field { return api.Field{Name: "x", Kind: k, Count: n} }

func fields(list ...api.Field) []api.Field { return list }

// laid goes place by place to where the document lets fields stand.
func laid(list []api.Field) (int, []int) {
	place, widest, at := 0, 1, []int{}
	for _, f := range list {
		for place%bytesOf(f.Kind) != 0 {
			place++
		}
		at = append(at, place)
		place += f.Count * bytesOf(f.Kind)
		widest = max(widest, bytesOf(f.Kind))
	}
	for place%widest != 0 {
		place++
	}
	return place, at
}

// elems are all elements' kinds, in order.
func elems(list []api.Field) []api.Kind {
	all := []api.Kind{}
	for _, f := range list {
		for range f.Count {
			all = append(all, f.Kind)
		}
	}
	return all
}

func someField(dice *rand.Rand) api.Field {
	return of(kinds[dice.IntN(len(kinds))].k, 1+dice.IntN(api.MaxCount))
}

func someFields(dice *rand.Rand) []api.Field {
	list := make([]api.Field, dice.IntN(api.MaxFields+1))
	for i := range list {
		list[i] = someField(dice)
	}
	return list
}

// fittingFields have a row of at most 256 bytes.
func fittingFields(dice *rand.Rand) []api.Field {
	for {
		list := someFields(dice)
		if size, _ := laid(list); size <= 256 {
			return list
		}
	}
}

// wrong are fields that can't be, or whose row is too long.
func wrong() []struct {
	list []api.Field
	want api.Errno
} {
	good := fields(of(api.U8, 1), of(api.I64, 2))
	long := fields(of(api.U64, 8), of(api.U64, 8), of(api.U64, 8), of(api.U64, 8), of(api.U64, 1))
	all := []struct {
		list []api.Field
		want api.Errno
	}{
		{long, api.ErrFull},
		{fields(of(api.U64, 8), of(api.Ref, 8), of(api.I64, 8), of(api.U64, 8), of(api.Bool, 1)), api.ErrFull},
		{slices.Repeat(fields(of(api.U64, 8)), 8), api.ErrFull},
		{slices.Repeat(fields(of(api.U8, 1)), 9), api.ErrArg},
		{slices.Repeat(fields(of(api.U64, 8)), 9), api.ErrArg},
		{make([]api.Field, 9), api.ErrArg},
		{make([]api.Field, 1), api.ErrArg},
		{make([]api.Field, 100000), api.ErrArg},
	}
	bad := []api.Field{}
	for _, n := range []int{0, -1, 9, 10, 256, 257, 1 << 32, 1<<32 + 1, 1 << 61, maxInt, minInt, minInt + 1} {
		for _, x := range kinds {
			bad = append(bad, of(x.k, n))
		}
	}
	for _, k := range []api.Kind{0, -1, -10, 11, 12, 16, 256, 257, 1<<32 + 1, maxInt, minInt, minInt + 1} {
		for n := range 10 {
			bad = append(bad, of(k, n))
		}
	}
	for _, f := range bad {
		for _, list := range [][]api.Field{{f}, {good[0], f, good[1]}, {f, good[0]}, {f, f}} {
			all = append(all, struct {
				list []api.Field
				want api.Errno
			}{list, api.ErrArg})
		}
		// A row that is too long ahead of what can't be, or behind it, isn't told.
		for _, list := range [][]api.Field{append(slices.Clone(long), f), append(fields(f), long...)} {
			all = append(all, struct {
				list []api.Field
				want api.Errno
			}{list, api.ErrArg})
		}
	}
	return all
}

// isLaid: whether all that P5.1 says of fields that can be is so.
func isLaid(list []api.Field) bool {
	size, at := laid(list)
	p, e := layout.Of(list)
	if layout.Check(list) != api.OK || e != api.OK || p.Size != size || !slices.Equal(p.At, at) {
		return false
	}
	sum := len(elems(list))
	for i := range list {
		if layout.Start(list, i) != len(elems(list[:i])) {
			return false
		}
	}
	return layout.Elems(list) == sum && slices.Equal(layout.Zero(list), make([]api.Int, sum)) && hasNoOtherStart(list)
}

func hasNoOtherStart(list []api.Field) bool {
	n := len(list)
	for _, i := range []int{-1, -2, n, n + 1, n + 8, 1 << 32, maxInt, minInt} {
		if layout.Start(list, i) != 0 {
			return false
		}
	}
	return true
}

// isWrong: whether all that P5.1 says of fields with an error is so.
func isWrong(list []api.Field, want api.Errno) bool {
	p, e := layout.Of(list)
	if layout.Check(list) != want || e != want || p.Size != 0 || len(p.At) != 0 {
		return false
	}
	for i := range min(len(list), 10) {
		if layout.Start(list, i) != 0 {
			return false
		}
	}
	return layout.Elems(list) == 0 && len(layout.Zero(list)) == 0 && hasNoOtherStart(list)
}

// P5.1

func TestPlanByHand(t *testing.T) {
	for i, x := range []struct {
		list []api.Field
		size int
		at   []int
	}{
		{fields(of(api.U8, 1), of(api.I32, 1), of(api.U8, 1)), 12, []int{0, 4, 8}},
		{nil, 0, nil},
		{fields(), 0, nil},
		{fields(of(api.Bool, 1)), 1, []int{0}},
		{fields(of(api.U8, 3)), 3, []int{0}},
		{fields(of(api.U16, 3)), 6, []int{0}},
		{fields(of(api.U8, 3), of(api.I8, 2)), 5, []int{0, 3}},
		{fields(of(api.U8, 3), of(api.I16, 1)), 6, []int{0, 4}},
		{fields(of(api.I16, 1), of(api.U8, 3)), 6, []int{0, 2}},
		{fields(of(api.I16, 3), of(api.U32, 1)), 12, []int{0, 8}},
		{fields(of(api.U8, 1), of(api.U64, 1), of(api.U16, 1)), 24, []int{0, 8, 16}},
		{fields(of(api.U64, 1), of(api.U16, 1), of(api.U8, 1)), 16, []int{0, 8, 10}},
		{fields(of(api.Ref, 1), of(api.Bool, 8)), 16, []int{0, 8}},
		{fields(of(api.U8, 1), of(api.U16, 2), of(api.Bool, 1)), 8, []int{0, 2, 6}},
		{fields(of(api.I8, 1), of(api.I16, 1), of(api.I32, 1), of(api.I64, 1)), 16, []int{0, 2, 4, 8}},
	} {
		p, e := layout.Of(x.list)
		if e != api.OK || p.Size != x.size || !slices.Equal(p.At, x.at) || layout.Check(x.list) != api.OK {
			t.Error(i, p, e)
		}
	}
}

func TestStartByHand(t *testing.T) {
	list := fields(of(api.Bool, 2), of(api.I64, 1), of(api.U8, 8), of(api.Ref, 3))
	for i, want := range []int{0, 2, 3, 11} {
		if got := layout.Start(list, i); got != want {
			t.Error(i, got)
		}
	}
	if !hasNoOtherStart(list) || layout.Elems(list) != 14 || !slices.Equal(layout.Zero(list), make([]api.Int, 14)) {
		t.Error("elems")
	}
}

func TestAllShortLists(t *testing.T) {
	one := []api.Field{}
	for _, x := range kinds {
		for _, n := range []int{1, 2, 3, 8} {
			one = append(one, of(x.k, n))
		}
	}
	for _, a := range one {
		if !isLaid(fields(a)) {
			t.Fatal(a)
		}
		for _, b := range one {
			if !isLaid(fields(a, b)) {
				t.Fatal(a, b)
			}
			for _, c := range one {
				if !isLaid(fields(a, b, c)) {
					t.Fatal(a, b, c)
				}
			}
		}
	}
}

func TestManyLists(t *testing.T) {
	dice := rand.New(rand.NewPCG(1, 5))
	full := 0
	for range 20000 {
		list := someFields(dice)
		if size, _ := laid(list); size > 256 {
			full++
			if !isWrong(list, api.ErrFull) {
				t.Fatal(list)
			}
		} else if !isLaid(list) {
			t.Fatal(list)
		}
	}
	if full == 0 || full == 20000 {
		t.Error(full)
	}
}

func TestLongestRow(t *testing.T) {
	for i, x := range []struct {
		list []api.Field
		last api.Field
	}{
		{fields(of(api.U64, 8), of(api.I64, 8), of(api.Ref, 8), of(api.U64, 8)), of(api.Bool, 1)},
		{fields(of(api.U64, 8), of(api.U64, 8), of(api.U64, 8), of(api.U64, 7), of(api.U8, 8)), of(api.U8, 1)},
		{fields(of(api.U64, 8), of(api.U64, 8), of(api.U64, 8), of(api.U64, 7), of(api.U8, 7)), of(api.I16, 1)},
		{slices.Repeat(fields(of(api.U32, 8), of(api.I64, 4)), 4), api.Field{}},
		{fields(of(api.U8, 1), of(api.U64, 8), of(api.U8, 1), of(api.U64, 8), of(api.U8, 1), of(api.U64, 8), of(api.U64, 5)), of(api.Bool, 1)},
	} {
		if p, e := layout.Of(x.list); e != api.OK || p.Size != 256 || !isLaid(x.list) {
			t.Error(i, p, e)
		}
		if len(x.list) < 8 && !isWrong(append(x.list, x.last), api.ErrFull) {
			t.Error(i)
		}
	}
	// What stands between the fields counts too: the elements have 236 bytes.
	if !isWrong(fields(of(api.U8, 1), of(api.U64, 8), of(api.U8, 1), of(api.U64, 8), of(api.U8, 1), of(api.U64, 8), of(api.U8, 1), of(api.U64, 5)), api.ErrFull) {
		t.Error("gaps")
	}
}

func TestMostFields(t *testing.T) {
	list := slices.Repeat(fields(of(api.U8, 8)), 8)
	if !isLaid(list) || layout.Elems(list) != 64 {
		t.Error(layout.Of(list))
	}
	if !isWrong(append(list, of(api.U8, 1)), api.ErrArg) {
		t.Error("nine")
	}
}

func TestWrongFields(t *testing.T) {
	for _, x := range wrong() {
		if !isWrong(x.list, x.want) {
			t.Error(x.want, x.list)
		}
	}
}

func TestNamesPlayNoPart(t *testing.T) {
	list := fields(of(api.U8, 1), of(api.I32, 2), of(api.U8, 1))
	for i, names := range [][]string{{"", "", ""}, {"a", "a", "a"}, {"9", "\x00", "A name that is no name at all"}} {
		for j, s := range names {
			list[j].Name = s
		}
		if !isLaid(list) {
			t.Error(i)
		}
	}
}

func TestListsStay(t *testing.T) {
	room := fields(of(api.U8, 1), of(api.I32, 2), of(api.U8, 3), of(api.U64, 1), of(99, 99))
	was := slices.Clone(room)
	list := room[1:3]
	layout.Check(list)
	layout.Of(list)
	layout.Elems(list)
	layout.Start(list, 1)
	layout.Zero(list)
	if !slices.Equal(room, was) {
		t.Error(room)
	}
}

func TestPlansAreNew(t *testing.T) {
	list := fields(of(api.U8, 1), of(api.I32, 2))
	p, _ := layout.Of(list)
	zeros := layout.Zero(list)
	p.At[1], zeros[0].Lo = 77, 77
	list[1].Kind = api.I64
	if q, e := layout.Of(list); e != api.OK || q.Size != 24 || !slices.Equal(q.At, []int{0, 8}) {
		t.Error(q, e)
	}
	if layout.Zero(list)[0] != (api.Int{}) || p.At[1] != 77 {
		t.Error("shared")
	}
}
