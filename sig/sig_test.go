package sig_test

import (
	"math/rand/v2"
	"reflect"
	"slices"
	"strconv"
	"strings"
	"testing"

	"retrofit/api"
	"retrofit/sig"
)

const (
	maxInt = 1<<63 - 1
	minInt = -1 << 63
)

// wrongIds are no components' Ids; shifts by some of them would come round to
// one, or panic.
func wrongIds() []int {
	return []int{0, -1, 25, 26, 31, 32, 33, 34, 56, 63, 64, 65, 66, 129, 256 + 3, 1<<32 + 3, -31, -32, -62, -63, maxInt, minInt, minInt + 3}
}

// members is a second reading of a number: the bits 1 to 24 that are set.
func members(s sig.Sig) map[int]bool {
	m := map[int]bool{}
	for id := 1; id <= 24; id++ {
		if uint32(s)/(1<<id)%2 == 1 {
			m[id] = true
		}
	}
	return m
}

func rising(m map[int]bool) []int {
	ids := []int{}
	for id := range m {
		ids = append(ids, id)
	}
	slices.Sort(ids)
	return ids
}

// numbers are sets of all kinds, those that can't be too.
func numbers(n int) []sig.Sig {
	r := rand.New(rand.NewPCG(10, uint64(n)))
	list := []sig.Sig{0, 1, 2, 3, 1 << 24, 1 << 25, 1<<25 - 2, 1<<25 - 1, 1 << 31, 1<<32 - 1, 1<<32 - 1<<25}
	for i := 0; i < 32; i++ {
		list = append(list, 1<<i, ^sig.Sig(1<<i))
	}
	for range n {
		x := sig.Sig(r.Uint32())
		list = append(list, x, x&(1<<25-2), x&sig.Sig(r.Uint32())&sig.Sig(r.Uint32()), x|sig.Sig(r.Uint32()), x&^(1<<25-2))
	}
	return list
}

func same(a, b []int) bool { return len(a) == 0 && len(b) == 0 || reflect.DeepEqual(a, b) }

// P10.1

func TestOfOneId(t *testing.T) {
	for id := 1; id <= 24; id++ {
		want := sig.Sig(1)
		for range id {
			want *= 2
		}
		if s, e := sig.Of(id); s != want || e != api.OK {
			t.Error(id, s, e)
		}
	}
}

func TestOfNone(t *testing.T) {
	if s, e := sig.Of(); s != 0 || e != api.OK {
		t.Error(s, e)
	}
	if s, e := sig.Of([]int{}...); s != 0 || e != api.OK {
		t.Error(s, e)
	}
}

func TestOfMany(t *testing.T) {
	r := rand.New(rand.NewPCG(1, 1))
	for range 2000 {
		ids, want := []int{}, map[int]bool{}
		for range r.IntN(40) {
			id := 1 + r.IntN(24)
			ids, want[id] = append(ids, id), true
		}
		kept := slices.Clone(ids)
		s, e := sig.Of(ids...)
		if e != api.OK || !reflect.DeepEqual(members(s), want) || !s.Is() {
			t.Fatal(ids, s, e)
		}
		if !slices.Equal(ids, kept) {
			t.Fatal("the list was changed", kept, ids)
		}
	}
	all := []int{}
	for id := 24; id >= 1; id-- {
		all = append(all, id, id)
	}
	if s, e := sig.Of(all...); s != 1<<25-2 || e != api.OK {
		t.Error(s, e)
	}
}

func TestOfWrong(t *testing.T) {
	for _, id := range wrongIds() {
		for _, ids := range [][]int{{id}, {id, 1}, {1, id}, {1, 2, id, 3}, {3, 3, id}, {id, id}} {
			if s, e := sig.Of(ids...); s != 0 || e != api.ErrArg {
				t.Error(ids, s, e)
			}
		}
	}
}

func TestIs(t *testing.T) {
	for i := range 32 {
		if got := sig.Sig(1 << i).Is(); got != (i >= 1 && i <= 24) {
			t.Error(i, got)
		}
	}
	for _, s := range numbers(1000) {
		want := uint32(s) < 1<<25 && uint32(s)%2 == 0
		if s.Is() != want {
			t.Error(s, want)
		}
	}
}

func TestHas(t *testing.T) {
	for _, s := range numbers(200) {
		m := members(s)
		for id := -70; id <= 140; id++ {
			if s.Has(id) != m[id] {
				t.Fatal(s, id)
			}
		}
		for _, id := range wrongIds() {
			if s.Has(id) {
				t.Fatal(s, id)
			}
		}
	}
}

// with is a second reading: the number, with the Id's power of two there or
// not, all other bits as they were.
func with(s sig.Sig, id int, there bool) sig.Sig {
	if id < 1 || id > 24 || members(s)[id] == there {
		return s
	}
	if there {
		return s + 1<<id
	}
	return s - 1<<id
}

func TestWithAndWithout(t *testing.T) {
	for _, s := range numbers(200) {
		ids := wrongIds()
		for id := -70; id <= 140; id++ {
			ids = append(ids, id)
		}
		for _, id := range ids {
			if got := s.With(id); got != with(s, id, true) {
				t.Fatal("with", s, id, got)
			}
			if got := s.Without(id); got != with(s, id, false) {
				t.Fatal("without", s, id, got)
			}
		}
	}
}

func TestIdsAndLen(t *testing.T) {
	for _, s := range numbers(1000) {
		want := rising(members(s))
		if got := s.Ids(); !same(got, want) || s.Len() != len(want) {
			t.Fatal(s, got, s.Len(), want)
		}
	}
	if n := sig.Sig(1<<32 - 1).Len(); n != 24 {
		t.Error(n)
	}
}

func TestIdsAreNewMemory(t *testing.T) {
	s, _ := sig.Of(1, 5, 24)
	a := s.Ids()
	for i := range a[:cap(a)] {
		a[:cap(a)][i] = 7
	}
	if b := s.Ids(); !slices.Equal(b, []int{1, 5, 24}) {
		t.Error(b)
	}
}

func TestWithinAndMeets(t *testing.T) {
	list := numbers(40)
	for _, s := range list {
		a := members(s)
		for _, u := range list {
			b := members(u)
			within, meets := true, false
			for id := range a {
				within = within && b[id]
				meets = meets || b[id]
			}
			if s.Within(u) != within || s.Meets(u) != meets {
				t.Fatal(s, u, within, meets)
			}
		}
	}
}

func TestWithinAndMeetsOfFew(t *testing.T) {
	for _, x := range []struct {
		s, t          []int
		within, meets bool
	}{
		{nil, nil, true, false},
		{nil, []int{1}, true, false},
		{[]int{1}, nil, false, false},
		{[]int{1}, []int{1}, true, true},
		{[]int{1}, []int{2}, false, false},
		{[]int{1, 2}, []int{2}, false, true},
		{[]int{2}, []int{1, 2}, true, true},
		{[]int{1, 24}, []int{2, 24}, false, true},
		{[]int{24}, []int{1, 24}, true, true},
	} {
		a, _ := sig.Of(x.s...)
		b, _ := sig.Of(x.t...)
		if a.Within(b) != x.within || a.Meets(b) != x.meets || b.Meets(a) != x.meets {
			t.Error(x)
		}
	}
}

// Bits that can't be play no part, on no side.
func TestRawBits(t *testing.T) {
	raw := sig.Sig(1<<32 - 1<<25 + 1)
	for _, s := range numbers(100) {
		clean := s & (1<<25 - 2)
		for _, x := range []sig.Sig{s | raw, s &^ raw, s ^ raw, s | 1, s | 1<<25, s | 1<<31} {
			if !same(x.Ids(), clean.Ids()) || x.Len() != clean.Len() || !x.Within(clean) || !clean.Within(x) || x.Text() != clean.Text() {
				t.Fatal(s, x)
			}
			if x.Meets(clean) != (clean != 0) || clean.Meets(x) != (clean != 0) || x.Meets(raw) || raw.Meets(x) || !raw.Within(x) {
				t.Fatal(s, x)
			}
			if x.With(3)&raw != x&raw || x.Without(3)&raw != x&raw {
				t.Fatal("raw bits don't stay", s, x)
			}
		}
	}
}

// P10.2

func TestTextExamples(t *testing.T) {
	if s, e := sig.Of(3, 1); s != 10 || e != api.OK || s.Text() != "1+3" {
		t.Error(s, e, s.Text())
	}
	for _, x := range []struct {
		s    sig.Sig
		want string
	}{{0, "-"}, {1, "-"}, {1 << 25, "-"}, {2, "1"}, {3, "1"}, {1 << 24, "24"}, {1<<9 + 1<<10, "9+10"}, {1<<1 + 1<<10 + 1<<20, "1+10+20"},
		{1<<25 - 2, "1+2+3+4+5+6+7+8+9+10+11+12+13+14+15+16+17+18+19+20+21+22+23+24"}} {
		if got := x.s.Text(); got != x.want {
			t.Error(x.s, got)
		}
	}
}

// text is a second reading.
func text(s sig.Sig) string {
	out := ""
	for _, id := range rising(members(s)) {
		out += "+" + strconv.Itoa(id)
	}
	if out == "" {
		return "-"
	}
	return out[1:]
}

func TestTextAndBack(t *testing.T) {
	for _, s := range numbers(1000) {
		if got := s.Text(); got != text(s) {
			t.Fatal(s, got)
		}
		if back, e := sig.Parse(s.Text()); back != s&(1<<25-2) || e != api.OK {
			t.Fatal(s, back, e)
		}
	}
}

func TestParseWrong(t *testing.T) {
	for _, x := range []string{
		"", " ", "+", "++", "--", "-+", "+-", "-+1", "1+-", "- ", " -", "-0", "-1", "0", "00", "01", "1+", "+1", "1++2", "1+2+", "1 ", " 1",
		"1+ 2", "1 +2", "1,2", "1-2", "1+1", "2+1", "1+2+2", "1+3+2", "24+24", "24+23", "10+9", "25", "1+25", "024", "1+02", "100", "1+0", "0+1",
		"1\n", "1+2\x00", "١", "1٣", "0x1", "1e0", "1_0", "+1+2", "18446744073709551617", "4294967297", "257", "1+4294967298", "none", "a",
		"1+2+3+4+5+6+7+8+9+10+11+12+13+14+15+16+17+18+19+20+21+22+23+24+25",
		strings.Repeat("1", 1000), strings.Repeat("+", 1000), strings.Repeat("1+", 1000), strings.Repeat("0", 1000) + "1",
	} {
		if s, e := sig.Parse(x); s != 0 || e != api.ErrForm {
			t.Errorf("%q %d %d", x, s, e)
		}
	}
}

// All texts of up to five of these bytes: just those are read that are some
// set's.
func TestParseAllShort(t *testing.T) {
	texts := map[string]sig.Sig{}
	note := func(s sig.Sig) { texts[text(s)] = s }
	note(0)
	for a := 1; a <= 24; a++ {
		note(1 << a)
		for b := a; b <= 24; b++ {
			note(1<<a | 1<<b)
			for c := b; c <= 24; c++ {
				note(1<<a | 1<<b | 1<<c)
			}
		}
	}
	read := 0
	var try func(s string)
	try = func(s string) {
		want, is := texts[s]
		got, e := sig.Parse(s)
		if is && (got != want || e != api.OK) || !is && (got != 0 || e != api.ErrForm) {
			t.Fatalf("%q %d %d", s, got, e)
		}
		if is {
			read++
		}
		if len(s) == 5 {
			return
		}
		for _, c := range []byte("0123456789+- ") {
			try(s + string(c))
		}
	}
	try("")
	short := 0
	for s := range texts {
		if len(s) <= 5 {
			short++
		}
	}
	if read != short || short < 300 {
		t.Error(read, short)
	}
}

// A text with a byte turned, put in or left out is read only if it is a set's.
func TestParseTurned(t *testing.T) {
	check := func(x string) {
		s, e := sig.Parse(x)
		if e == api.OK && (text(s) != x || !s.Is()) || e != api.OK && (s != 0 || e != api.ErrForm) {
			t.Fatalf("%q %d %d", x, s, e)
		}
	}
	for _, s := range numbers(20) {
		x := text(s)
		for i := range x {
			check(x[:i])
			check(x[i:])
			check(x[:i] + x[i+1:])
			for c := range 256 {
				check(x[:i] + string([]byte{byte(c)}) + x[i+1:])
				check(x[:i] + string([]byte{byte(c)}) + x[i:])
			}
		}
	}
}

func parts(ids ...int) []api.Part {
	list := []api.Part{}
	for _, id := range ids {
		list = append(list, api.Part{Comp: id, Val: []api.Int{{Lo: 7}, {Neg: true, Hi: 1 << 63}}})
	}
	return list
}

// inParts is a second reading: Of's answer ahead, then whether one comes twice.
func inParts(ids []int) (sig.Sig, api.Errno) {
	times := map[int]int{}
	s, e := sig.Of(ids...)
	if e != api.OK {
		return 0, e
	}
	for _, id := range ids {
		times[id]++
		if times[id] > 1 {
			return 0, api.ErrState
		}
	}
	return s, api.OK
}

func TestParts(t *testing.T) {
	for _, x := range []struct {
		ids  []int
		want sig.Sig
		e    api.Errno
	}{
		{nil, 0, api.OK},
		{[]int{1}, 2, api.OK},
		{[]int{24}, 1 << 24, api.OK},
		{[]int{3, 1}, 10, api.OK},
		{[]int{1, 1}, 0, api.ErrState},
		{[]int{1, 2, 1}, 0, api.ErrState},
		{[]int{0}, 0, api.ErrArg},
		{[]int{25}, 0, api.ErrArg},
		{[]int{-1}, 0, api.ErrArg},
		{[]int{1, 1, 0}, 0, api.ErrArg},
		{[]int{0, 1, 1}, 0, api.ErrArg},
		{[]int{25, 25}, 0, api.ErrArg},
		{[]int{1, 1, 2, 3, 25}, 0, api.ErrArg},
	} {
		if s, e := sig.Parts(parts(x.ids...)); s != x.want || e != x.e {
			t.Error(x.ids, s, e)
		}
	}
	for _, id := range wrongIds() {
		for _, ids := range [][]int{{id}, {1, id}, {id, 1}, {2, 2, id}, {id, 2, 2}, {id, id}} {
			if s, e := sig.Parts(parts(ids...)); s != 0 || e != api.ErrArg {
				t.Error(ids, s, e)
			}
		}
	}
}

func TestPartsOfMany(t *testing.T) {
	r := rand.New(rand.NewPCG(2, 2))
	seen := map[api.Errno]int{}
	for range 5000 {
		ids := r.Perm(26)[:r.IntN(8)]
		for i := range ids {
			if ids[i]%25 == 0 && r.IntN(4) > 0 {
				ids[i] = 24
			}
		}
		list := parts(ids...)
		kept := parts(ids...)
		s, e := sig.Parts(list)
		want, we := inParts(ids)
		if s != want || e != we {
			t.Fatal(ids, s, e, want, we)
		}
		if !reflect.DeepEqual(list, kept) {
			t.Fatal("the parts were changed", ids)
		}
		seen[e]++
	}
	if seen[api.OK] < 100 || seen[api.ErrArg] < 100 || seen[api.ErrState] < 50 {
		t.Error(seen)
	}
}

// All lists of up to three Ids from 0 to 25.
func TestPartsOfFew(t *testing.T) {
	var try func(ids []int)
	try = func(ids []int) {
		s, e := sig.Parts(parts(ids...))
		if want, we := inParts(ids); s != want || e != we {
			t.Fatal(ids, s, e, want, we)
		}
		if len(ids) == 3 {
			return
		}
		for id := range 26 {
			try(append(slices.Clone(ids), id))
		}
	}
	try(nil)
}

// Values play no part, whether they can be or not.
func TestPartsWhateverTheValue(t *testing.T) {
	list := []api.Part{{Comp: 4}, {Comp: 2, Val: []api.Int{}}, {Comp: 9, Val: []api.Int{{Neg: true}, {Hi: 1<<64 - 1}}}}
	if s, e := sig.Parts(list); s.Text() != "2+4+9" || e != api.OK {
		t.Error(s, e)
	}
}

// P10.3

func TestWhoHasMore(t *testing.T) {
	list := numbers(60)
	for _, s := range list {
		for _, u := range append(slices.Clone(list), s, s|1, s^1<<31) {
			both := s.Within(u) && u.Within(s)
			if both != same(s.Ids(), u.Ids()) || s.Is() && u.Is() && both != (s == u) {
				t.Fatal(s, u)
			}
		}
	}
}

// All pairs of sets of the Ids 1 to 4 and 24.
func TestWhoHasMoreOfFew(t *testing.T) {
	all := []sig.Sig{}
	for n := range 32 {
		s := sig.Sig(0)
		for i, id := range []int{1, 2, 3, 4, 24} {
			if n>>i&1 == 1 {
				s = s.With(id)
			}
		}
		all = append(all, s)
	}
	for _, s := range all {
		for _, u := range all {
			if (s.Within(u) && u.Within(s)) != (s == u) {
				t.Error(s, u)
			}
			if s.Within(u) && !u.Within(s) && s.Len() >= u.Len() {
				t.Error(s, u)
			}
		}
	}
}

func FuzzSig(f *testing.F) {
	f.Add("1+2+24", uint32(10), 3)
	f.Add("-", uint32(0), 0)
	f.Add("2+1", uint32(1<<31+1), -64)
	f.Fuzz(func(t *testing.T, x string, n uint32, id int) {
		p, e := sig.Parse(x)
		if e == api.OK && (!p.Is() || p.Text() != x) || e != api.OK && (p != 0 || e != api.ErrForm) {
			t.Fatalf("%q %d %d", x, p, e)
		}
		s := sig.Sig(n)
		if s.Has(id) != members(s)[id] || s.With(id) != with(s, id, true) || s.Without(id) != with(s, id, false) || s.Text() != text(s) {
			t.Fatal(s, id)
		}
		if back, e := sig.Of(s.Ids()...); back != s&(1<<25-2) || e != api.OK {
			t.Fatal(s, back, e)
		}
	})
}
