package rule_test

import (
	"math/rand/v2"
	"slices"
	"strings"
	"testing"

	"retrofit/api"
	"retrofit/expr"
	"retrofit/rule"
)

// P12.2

func TestBytesByHand(t *testing.T) {
	for i, x := range []struct {
		p    rule.Program
		want string
	}{
		{prog(1, 2), "\x4d\x01\x00\x00\x00\x02\x00\x00\x00\x00"},
		{prog(2, 1), "\x4d\x02\x00\x00\x00\x01\x00\x00\x00\x00"},
		{prog(255, 256), "\x4d\xff\x00\x00\x00\x00\x01\x00\x00\x00"},
		{prog(0x01020304, 0x11121314), "\x4d\x04\x03\x02\x01\x14\x13\x12\x11\x00"},
		{prog(1<<30-1, 1<<30), "\x4d\xff\xff\xff\x3f\x00\x00\x00\x40\x00"},
		{prog(1, 2, fresh(1)), "\x4d\x01\x00\x00\x00\x02\x00\x00\x00\x01\x01\x00\x00"},
		{prog(1, 2, made(24, 23)), "\x4d\x01\x00\x00\x00\x02\x00\x00\x00\x01\x18\x17\x00"},
		{prog(1, 2, made(3, 9, code(op(expr.Place)))), "\x4d\x01\x00\x00\x00\x02\x00\x00\x00\x01\x03\x09\x01\x02\x00\x00\x00\x01\x04"},
		{prog(1, 2, made(3, 9, code(here(7)), code(elem(6, 5)))),
			"\x4d\x01\x00\x00\x00\x02\x00\x00\x00\x01\x03\x09\x02\x03\x00\x00\x00\x01\x03\x07\x04\x00\x00\x00\x01\x02\x06\x05"},
		{prog(1, 2, fresh(1), fresh(2)), "\x4d\x01\x00\x00\x00\x02\x00\x00\x00\x02\x01\x00\x00\x02\x00\x00"},
		{prog(1, 2, made(2, 1, twice())), "\x4d\x01\x00\x00\x00\x02\x00\x00\x00\x01\x02\x01\x01\x17\x00\x00\x00" + twiceBytes},
		{three(), threeBytes},
	} {
		if b, e := rule.Encode(x.p); e != api.OK || b != x.want {
			t.Errorf("%d %q %d", i, b, e)
		}
		if p, e := rule.Decode(x.want); e != api.OK || !same(p, x.p) {
			t.Error(i, p, e)
		}
	}
}

func TestAllIdsAndCounts(t *testing.T) {
	for id := range 27 {
		for old := range 27 {
			for n := range 11 {
				p := prog(1, 2, made(id, old, times(n, code(here(n%8)))...))
				want := check(p)
				b, e := rule.Encode(p)
				if e != want || e == api.OK && b != written(p) || e != api.OK && b != "" {
					t.Fatalf("%d %d %d %q %d", id, old, n, b, e)
				}
				if !holds(written(p)) || refuses(written(p)) != (want != api.OK) {
					t.Fatal(id, old, n)
				}
			}
		}
	}
}

func TestGreatestProgram(t *testing.T) {
	p := greatest()
	b, e := rule.Encode(p)
	if e != api.OK || b != written(p) || len(b) != 10+24*(3+8*(4+1+32*18+32)) {
		t.Error(len(b), e)
	}
	if o, e := rule.Decode(b); e != api.OK || !same(o, p) {
		t.Error(e)
	}
	p.Rules[23].Exprs = times(9, twice())
	if b, e := rule.Encode(p); e != api.ErrFull || b != "" || !refuses(written(p)) {
		t.Error(len(b), e)
	}
}

func TestLongParts(t *testing.T) {
	for n := 1; n < 70; n++ {
		p := prog(1, 2, made(1, 1, long(n)))
		b, e := rule.Encode(p)
		if n > 64 {
			if e != api.ErrFull || b != "" {
				t.Error(n, e)
			}
			continue
		}
		if o, also := rule.Decode(b); e != api.OK || b != written(p) || also != api.OK || !same(o, p) {
			t.Error(n, e, also)
		}
	}
}

func TestEncodeOfWrongPrograms(t *testing.T) {
	for i, x := range wrongRules() {
		if b, e := rule.Encode(prog(1, 2, fresh(2), x.r)); e != x.want || b != "" {
			t.Errorf("%d %q %d", i, b, e)
		}
	}
	for _, version := range []int{minInt, -1, 0, 1<<30 + 1, 1<<32 + 1, maxInt} {
		for _, p := range []rule.Program{prog(version, 1), prog(1, version), prog(version, version, made(1, 0, nil))} {
			if b, e := rule.Encode(p); e != api.ErrArg || b != "" {
				t.Errorf("%d %q %d", version, b, e)
			}
		}
	}
	for err, list := range badCodes() {
		for i, c := range list {
			if b, e := rule.Encode(prog(1, 2, made(1, 1, twice(), c))); e != err || b != "" {
				t.Errorf("%d %d %q %d", err, i, b, e)
			}
		}
	}
	if b, e := rule.Encode(rule.Program{}); e != api.ErrArg || b != "" {
		t.Error(b, e)
	}
}

func TestDecodeOfNoPrograms(t *testing.T) {
	head := "\x4d\x01\x00\x00\x00\x02\x00\x00\x00"
	for i, b := range []string{
		"",
		"\x4d",
		head,
		"\x00\x01\x00\x00\x00\x02\x00\x00\x00\x00",
		"\x01\x00\x00\x00\x02\x00\x00\x00\x00",            // without the first byte
		"\x6d\x01\x00\x00\x00\x02\x00\x00\x00\x00",        // m is not M
		"\x53\x01\x00\x00\x00\x02\x00\x00\x00\x00",        // another layer's
		"\x4d\x00\x00\x00\x00\x02\x00\x00\x00\x00",        // the version 0
		"\x4d\x01\x00\x00\x00\x00\x00\x00\x00\x00",        //
		"\x4d\x01\x00\x00\x40\x02\x00\x00\x00\x00",        // 2^30 + 1
		"\x4d\x01\x00\x00\x00\x01\x00\x00\x40\x00",        //
		"\x4d\x01\x00\x00\x80\x02\x00\x00\x00\x00",        // 2^31 + 1
		"\x4d\xff\xff\xff\xff\xff\xff\xff\xff\x00",        // 2^32 - 1
		head + "\x00\x00",                                 // something behind it
		head + "\x01",                                     // less than told
		head + "\xff",                                     //
		head + "\x02\x01\x00\x00",                         //
		head + "\x00\x01\x00\x00",                         // more than told
		head + "\x01\x00\x00\x00",                         // New 0
		head + "\x01\x19\x00\x00",                         // 25
		head + "\x01\xff\x00\x00",                         //
		head + "\x01\x01\x19\x00",                         // Old 25
		head + "\x01\x01\xff\x00",                         //
		head + "\x02\x02\x00\x00\x02\x00\x00",             // the same New twice
		head + "\x02\x02\x00\x00\x01\x00\x00",             // falling
		head + "\x01\x01\x00\x01\x02\x00\x00\x00\x01\x04", // a fresh one with a formula
		head + "\x01\x01\x01\x01",                         // no part
		head + "\x01\x01\x01\x01\x02\x00\x00",             //
		head + "\x01\x01\x01\x01\x02\x00\x00\x00",         //
		head + "\x01\x01\x01\x01\x02\x00\x00\x00\x01",     // a part that ends too early
		head + "\x01\x01\x01\x01\xff\xff\xff\xff\x01\x04", //
		head + "\x01\x01\x01\x01\x00\x00\x00\x80\x01\x04", //
		head + "\x01\x01\x01\x01\x00\x00\x00\x00",         // no bytes of a formula
		head + "\x01\x01\x01\x01\x01\x00\x00\x00\x00",     //
		head + "\x01\x01\x01\x01\x01\x00\x00\x00\x01\x04", // a part too short
		head + "\x01\x01\x01\x01\x03\x00\x00\x00\x01\x04", // too long
		head + "\x01\x01\x01\x01\x02\x00\x00\x00\x01\x05", // no formula
		head + "\x01\x01\x01\x01\x02\x00\x00\x00\x01\x12", //
		head + "\x01\x01\x01\x02\x02\x00\x00\x00\x01\x04", // a formula less than told
		head + "\x01\x01\x01\x00\x02\x00\x00\x00\x01\x04", // one more
		head + "\x01\x01\x01\x01\x00\x00\x00\x02\x01\x04", // the length's highest byte ahead
		head + "\x01\x01\x01\x09" + strings.Repeat("\x02\x00\x00\x00\x01\x04", 9),
		head + "\x01\x01\x01\xff" + strings.Repeat("\x02\x00\x00\x00\x01\x04", 255),
		head + "\xff" + strings.Repeat("\x01\x01\xff", 1<<16),
		strings.Repeat("\x4d", 1<<20),
		head + "\x01\x01\x01\x01\x00\x00\x10\x00" + strings.Repeat("\x04", 1<<20),
	} {
		if !refuses(b) || !holds(b) {
			t.Errorf("%d %.60q", i, b)
		}
	}
}

// TestFaultsAtTheEnd holds that all of the bytes is asked, not only what
// stands in front.
func TestFaultsAtTheEnd(t *testing.T) {
	for i, x := range wrongRules() {
		if x.r.New == 3 {
			x.r.New = 24
		}
		p := greatest()
		p.Rules[23] = x.r
		if !refuses(written(p)) || !holds(written(p)) {
			t.Error(i)
		}
		p.Rules[23] = made(24, 1, twice())
		if refuses(written(p)) || !holds(written(p)) {
			t.Error(i)
		}
	}
}

// TestCountsAboveTheLimit holds that a count beyond the limit isn't taken for
// the limit, if just so many follow.
func TestCountsAboveTheLimit(t *testing.T) {
	p := greatest()
	p.Rules[23].Exprs = times(8, code(here(0)))
	b := written(p)
	last := len(b) - 1 - 8*(4+3)
	if b[9] != 24 || b[last] != 8 {
		t.Fatal(b[9], b[last])
	}
	for n := range 256 {
		count := string([]byte{byte(n)})
		if refuses(b[:9]+count+b[10:]) != (n != 24) {
			t.Error(n)
		}
		if refuses(b[:last]+count+b[last+1:]) != (n != 8) {
			t.Error(n)
		}
	}
}

func TestCutBytes(t *testing.T) {
	b := threeBytes
	for k := range len(b) {
		if !refuses(b[:k]) || k > 0 && !refuses(b[k:]) {
			t.Error(k)
		}
	}
	for n := range 256 {
		if !refuses(b + string([]byte{byte(n)})) {
			t.Error(n)
		}
	}
	if !refuses(b+b) || !refuses(b+strings.Repeat("\x00", 1<<16)) {
		t.Error("twice")
	}
	b = written(greatest())
	for k := 0; k < len(b); k += 1 + k/3 {
		if !refuses(b[:k]) || !refuses(b[:len(b)-1-k]) {
			t.Error(k)
		}
	}
}

// TestTurnedBytes goes over all bytes that differ from a program's in one
// place, or have one byte less or more.
func TestTurnedBytes(t *testing.T) {
	found := 0
	for _, p := range []rule.Program{
		prog(1, 2), prog(1<<30, 1, fresh(1), made(2, 2)), three(), prog(1, 2, made(1, 1, times(8, code(here(0)))...)),
	} {
		b := written(p)
		for at := range len(b) + 1 {
			if at < len(b) && !holds(b[:at]+b[at+1:]) {
				t.Errorf("%q without %d", b, at)
			}
			for n := range 256 {
				put := string([]byte{byte(n)})
				if !holds(b[:at] + put + b[at:]) {
					t.Errorf("%q with %d at %d", b, n, at)
				}
				if at == len(b) {
					continue
				}
				turned := b[:at] + put + b[at+1:]
				if !holds(turned) {
					t.Errorf("%q, %d turned to %d", b, at, n)
				}
				if !refuses(turned) {
					found++
				}
			}
		}
	}
	if found < 1000 {
		t.Error(found)
	}
}

// P12.4

func TestUnlikePrograms(t *testing.T) {
	seen := map[string]int{}
	coded := 0
	for i, p := range unlike() {
		if len(faults(p)) > 0 {
			continue
		}
		coded++
		b, e := rule.Encode(p)
		if e != api.OK {
			t.Error(i, e)
		}
		if o, is := seen[b]; is {
			t.Error(i, o)
		}
		seen[b] = i
		if o, e := rule.Decode(b); e != api.OK || !rule.Same(o, p) || !same(o, p) {
			t.Error(i, o, e)
		}
	}
	if coded < 25 {
		t.Error(coded)
	}
}

func TestNothingIsTheSameAsNil(t *testing.T) {
	for i, x := range [][2]rule.Program{
		{prog(1, 2), {From: 1, To: 2, Rules: []rule.Rule{}}},
		{prog(1, 2, fresh(1)), prog(1, 2, rule.Rule{New: 1, Exprs: [][]expr.Ins{}})},
		{prog(1, 2, made(1, 1)), prog(1, 2, rule.Rule{New: 1, Old: 1, Exprs: [][]expr.Ins{}})},
	} {
		a, e := rule.Encode(x[0])
		b, also := rule.Encode(x[1])
		if e != api.OK || also != api.OK || a != b {
			t.Errorf("%d %q %q %d %d", i, a, b, e, also)
		}
		if !slices.Equal(rule.Lines(x[0]), rule.Lines(x[1])) {
			t.Error(i)
		}
	}
}

func TestManyPrograms(t *testing.T) {
	dice := rand.New(rand.NewPCG(6, 12))
	seen, bytes := map[api.Errno]int{}, map[string]rule.Program{}
	for range 50000 {
		p := someProgram(dice)
		want := check(p)
		seen[want]++
		b, e := rule.Encode(p)
		if e != want || e == api.OK && b != written(p) || e != api.OK && b != "" {
			t.Fatalf("%s %q %d %d", tell(p), b, e, want)
		}
		if !holds(written(p)) {
			t.Fatal(tell(p))
		}
		if e != api.OK {
			continue
		}
		if o, also := rule.Decode(b); also != api.OK || !same(o, p) {
			t.Fatal(tell(p), tell(o), also)
		}
		if o, is := bytes[b]; is && !same(o, p) {
			t.Fatal(tell(p), tell(o))
		}
		bytes[b] = p
	}
	for _, e := range []api.Errno{api.OK, api.ErrArg, api.ErrForm, api.ErrFull} {
		if seen[e] < 500 {
			t.Error(e, seen)
		}
	}
	if len(bytes) < 1000 {
		t.Error(len(bytes))
	}
}

// someTurn makes few turns of some bytes.
func someTurn(dice *rand.Rand, s string) string {
	b := []byte(s)
	for range 1 + dice.IntN(3) {
		at := dice.IntN(len(b) + 1)
		n := byte(dice.IntN(26))
		if dice.IntN(4) == 0 {
			n = byte(dice.IntN(256))
		}
		switch {
		case at == len(b) || dice.IntN(3) == 0:
			b = slices.Insert(b, at, n)
		case dice.IntN(2) == 0:
			b[at] = n
		default:
			b = slices.Delete(b, at, at+1)
		}
	}
	return string(b)
}

func TestManyTurns(t *testing.T) {
	dice := rand.New(rand.NewPCG(7, 12))
	found := 0
	for range 50000 {
		b := someTurn(dice, written(goodProgram(dice)))
		if !holds(b) {
			t.Fatalf("%q", b)
		}
		if !refuses(b) {
			found++
		}
	}
	if found < 1000 {
		t.Error(found)
	}
}

// Rule 3 of DOC.md

func TestDecodedProgramsAreNew(t *testing.T) {
	first, e := rule.Decode(threeBytes)
	second, also := rule.Decode(threeBytes)
	if e != api.OK || also != api.OK {
		t.Fatal(e, also)
	}
	for i, r := range first.Rules {
		spoil(r)
		first.Rules[i] = fresh(55)
	}
	if !same(second, three()) {
		t.Error(second)
	}
	if third, e := rule.Decode(threeBytes); e != api.OK || !same(third, three()) {
		t.Error(third, e)
	}
}

func TestListsOfOneProgramGoApart(t *testing.T) {
	p, e := rule.Decode(written(greatest()))
	if e != api.OK {
		t.Fatal(e)
	}
	for i, r := range p.Rules {
		for _, c := range r.Exprs {
			_ = append(c, op(55))
		}
		_ = append(p.Rules[i].Exprs, code(op(55)))
	}
	if !same(p, greatest()) {
		t.Error("behind")
	}
	p.Rules[3].Exprs[7][63] = op(54)
	want := greatest()
	want.Rules[3].Exprs[7][63] = op(54)
	if !same(p, want) {
		t.Error("apart")
	}
}

func FuzzDecode(f *testing.F) {
	f.Add("")
	f.Add(threeBytes)
	f.Add("\x4d\x01\x00\x00\x00\x02\x00\x00\x00\x00")
	f.Add("\x4d\x01\x00\x00\x00\x02\x00\x00\x00\xff")
	f.Add(written(prog(1, 2, made(1, 1, times(8, code(here(0)))...))))
	f.Fuzz(func(t *testing.T, bytes string) {
		if !holds(bytes) {
			t.Fatalf("%q", bytes)
		}
	})
}
