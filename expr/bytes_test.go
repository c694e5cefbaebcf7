package expr_test

import (
	"math/rand/v2"
	"slices"
	"strings"
	"testing"

	"retrofit/api"
	"retrofit/expr"
)

// noughts are n bytes of 0.
func noughts(n int) string { return strings.Repeat("\x00", n) }

const threeBytes = "\x03" +
	"\x01\x01" + "\x02\x00\x00\x00\x00\x00\x00\x00" + "\x00\x00\x00\x00\x00\x00\x00\x00" +
	"\x02\x01\x02" +
	"\x07"

func three() []expr.Ins { return of(num(-2), elem(1, 2), op(expr.Mul)) }

// holds: whether Decode answers of these bytes what the second reading does.
func holds(bytes string) bool {
	want, err := readDecode(bytes)
	code, e := expr.Decode(bytes)
	if e != err || !slices.Equal(code, want) {
		return false
	}
	if e != api.OK {
		return len(code) == 0
	}
	again, e := expr.Encode(code)
	return e == api.OK && again == bytes
}

func refuses(bytes string) bool {
	code, e := expr.Decode(bytes)
	return e == api.ErrForm && len(code) == 0
}

// P11.4

func TestBytesByHand(t *testing.T) {
	for i, x := range []struct {
		code []expr.Ins
		want string
	}{
		{three(), threeBytes},
		{of(num(0)), "\x01\x01\x00" + noughts(16)},
		{of(num(1)), "\x01\x01\x00\x01" + noughts(15)},
		{of(num(-1)), "\x01\x01\x01\x01" + noughts(15)},
		{of(great(api.Int{Hi: 0x1112131415161718, Lo: 0x0102030405060708})),
			"\x01\x01\x00\x08\x07\x06\x05\x04\x03\x02\x01\x18\x17\x16\x15\x14\x13\x12\x11"},
		{of(great(top)), "\x01\x01\x00" + strings.Repeat("\xff", 15) + "\x7f"},
		{of(great(bottom)), "\x01\x01\x01" + strings.Repeat("\xff", 15) + "\x7f"},
		{of(elem(0, 0)), "\x01\x02\x00\x00"},
		{of(elem(7, 6)), "\x01\x02\x07\x06"},
		{of(here(0)), "\x01\x03\x00"},
		{of(here(7)), "\x01\x03\x07"},
		{of(op(expr.Place)), "\x01\x04"},
		{of(op(expr.Place), op(expr.Place), op(expr.Add)), "\x03\x04\x04\x05"},
		{of(op(expr.Place), op(expr.Place), op(expr.Place), op(expr.Pick)), "\x04\x04\x04\x04\x10"},
		{of(op(expr.Place), here(1), op(expr.Need)), "\x03\x04\x03\x01\x11"},
	} {
		if b, e := expr.Encode(x.code); e != api.OK || b != x.want {
			t.Errorf("%d %q %d", i, b, e)
		}
		if code, e := expr.Decode(x.want); e != api.OK || !slices.Equal(code, x.code) {
			t.Error(i, code, e)
		}
	}
}

func TestEachRowsByte(t *testing.T) {
	for row, r := range ops[3:] {
		code := slices.Repeat(of(op(expr.Place)), r.takes)
		code = append(code, op(r.op))
		want := string([]byte{byte(len(code))}) + strings.Repeat("\x04", r.takes) + string([]byte{byte(r.op)})
		if b, e := expr.Encode(code); e != api.OK || b != want {
			t.Errorf("%d %q %d", row, b, e)
		}
		if back, e := expr.Decode(want); e != api.OK || !slices.Equal(back, code) {
			t.Error(row, back, e)
		}
	}
}

func TestLongestCode(t *testing.T) {
	code := slices.Concat(slices.Repeat(of(great(bottom)), 1), slices.Repeat(of(great(top), op(expr.Least)), 31), of(op(expr.Neg)))
	b, e := expr.Encode(code)
	if e != api.OK || len(b) != 1+32*18+31+1 || b[0] != 64 {
		t.Error(len(b), e)
	}
	if back, e := expr.Decode(b); e != api.OK || !slices.Equal(back, code) {
		t.Error(back, e)
	}
	// One instruction more.
	if !refuses("\x41" + b[1:] + "\x0a") {
		t.Error("65")
	}
	if b, e := expr.Encode(append(code, op(expr.Neg))); e != api.ErrFull || b != "" {
		t.Error(b, e)
	}
}

func TestEncodeMalformed(t *testing.T) {
	for i, code := range malformed() {
		if b, e := expr.Encode(code); e != api.ErrForm || b != "" {
			t.Error(i, b, e)
		}
	}
	for i, code := range [][]expr.Ins{sum(65), make([]expr.Ins, 65), append(of(expr.Ins{Op: 4, A: 1}), sum(64)...)} {
		if b, e := expr.Encode(code); e != api.ErrFull || b != "" {
			t.Error(i, b, e)
		}
	}
}

// TestEncodeUnnamed goes over all that a row may have and doesn't name.
func TestEncodeUnnamed(t *testing.T) {
	for row, r := range ops {
		code := alone(row)
		for at := range code {
			for a := range 8 {
				for b := range 8 {
					for _, k := range []api.Int{{}, {Lo: 1}, {Neg: true, Lo: 1}, {Hi: 1}} {
						turned := slices.Clone(code)
						turned[at].A, turned[at].B, turned[at].K = a, b, k
						want, err := readEncode(turned)
						if s, e := expr.Encode(turned); e != err || s != want {
							t.Fatal(r.word, at, a, b, k, s, e)
						}
						// It is well formed all the same.
						if err != api.OK && err != api.ErrArg {
							t.Fatal(r.word, at, a, b, k, err)
						}
					}
				}
			}
		}
	}
	for i, code := range [][]expr.Ins{
		of(expr.Ins{Op: expr.Num, A: 1}), of(expr.Ins{Op: expr.Num, B: 1}),
		of(expr.Ins{Op: expr.Elem, K: top}), of(expr.Ins{Op: expr.Here, B: 1}), of(expr.Ins{Op: expr.Here, K: bottom}),
		of(expr.Ins{Op: expr.Place, A: 1}), of(expr.Ins{Op: expr.Place, B: 1}), of(expr.Ins{Op: expr.Place, K: top}),
		of(num(1), expr.Ins{Op: expr.Neg, A: 1}), of(num(1), num(1), num(1), expr.Ins{Op: expr.Pick, K: api.Int{Lo: 1}}),
	} {
		if b, e := expr.Encode(code); e != api.ErrArg || b != "" {
			t.Error(i, b, e)
		}
		// What isn't well formed is told ahead.
		if b, e := expr.Encode(append(code, num(1))); e != api.ErrForm || b != "" {
			t.Error(i, b, e)
		}
	}
}

func TestDecodeWrong(t *testing.T) {
	for i, b := range []string{
		"", "\x00", "\x01", "\x01\x00", "\x01\x12", "\x01\x13", "\x01\xff", "\x02\x04", "\x02\x04\x04", "\x01\x05", "\x01\x04\x04",
		"\x00\x04", "\x00\x01\x00" + noughts(16), "\xff\x04", "\x03\x04\x04\x11\x00", "\x03\x04\x04\x10",
		"\x01\x02", "\x01\x02\x00", "\x01\x02\x08\x00", "\x01\x02\x00\x08", "\x01\x02\xff\x00", "\x01\x02\x00\x00\x00",
		"\x01\x03", "\x01\x03\x08", "\x01\x03\xff", "\x01\x03\x00\x00",
		"\x01\x01", "\x01\x01\x00", "\x01\x01\x00" + noughts(15), "\x01\x01\x00" + noughts(17),
		"\x01\x01\x01" + noughts(16),                                     // 0 with a sign
		"\x01\x01\x02\x01" + noughts(15),                                 // a sign that is none
		"\x01\x01\xff\x01" + noughts(15),                                 //
		"\x01\x01\x00" + noughts(15) + "\x80",                            // 2^127
		"\x01\x01\x01" + noughts(15) + "\x80",                            //
		"\x01\x01\x00" + strings.Repeat("\xff", 16),                      //
		"\x11" + strings.Repeat("\x04", 17),                              // 17 numbers are left
		"\x21" + strings.Repeat("\x04", 17) + strings.Repeat("\x05", 16), // 17 stand
		"\x41" + "\x04" + strings.Repeat("\x0a", 64),                     // 65 instructions
		"\x40" + strings.Repeat("\x04", 64),                              //
		strings.Repeat("\x04", 1<<20), strings.Repeat("\xff", 1<<20),
	} {
		if !refuses(b) || !holds(b) {
			t.Errorf("%d %.40q", i, b)
		}
	}
	for _, b := range []string{
		"\x1f" + strings.Repeat("\x04", 16) + strings.Repeat("\x05", 15), "\x40" + "\x04" + strings.Repeat("\x0a", 63),
	} {
		if refuses(b) || !holds(b) {
			t.Errorf("%q", b)
		}
	}
}

// TestTurnedBytes goes over all bytes that differ from a formula's in one
// place, or have one byte less or more, and over all cuts.
func TestTurnedBytes(t *testing.T) {
	high := append(slices.Repeat(of(op(expr.Place)), 16), slices.Repeat(of(op(expr.Add)), 15)...)
	found := 0
	for _, code := range [][]expr.Ins{
		three(), of(great(top)), of(op(expr.Place)), high, of(here(1), elem(0, 3), op(expr.Place), op(expr.Pick), op(expr.Not)),
	} {
		b, e := expr.Encode(code)
		if e != api.OK {
			t.Fatal(e)
		}
		for at := range len(b) + 1 {
			if !refuses(b[:at]) && at < len(b) || at > 0 && !holds(b[at:]) || at < len(b) && !holds(b[:at]+b[at+1:]) {
				t.Errorf("%q at %d", b, at)
			}
			for n := range 256 {
				put := string([]byte{byte(n)})
				if !holds(b[:at] + put + b[at:]) {
					t.Errorf("%q with %d at %d", b, n, at)
				}
				if at < len(b) && !holds(b[:at]+put+b[at+1:]) {
					t.Errorf("%q, %d turned to %d", b, at, n)
				}
				if at < len(b) && !refuses(b[:at]+put+b[at+1:]) {
					found++
				}
				if at == len(b) && !refuses(b+put) {
					t.Errorf("%q and %d", b, n)
				}
			}
		}
	}
	if found < 1000 {
		t.Error(found)
	}
}

// TestShortBytes goes over all bytes of up to four instructions without
// operands, whatever count stands ahead.
func TestShortBytes(t *testing.T) {
	found := 0
	var visit func(b string)
	visit = func(b string) {
		for n := range 6 {
			all := string([]byte{byte(n)}) + b
			if !holds(all) {
				t.Fatalf("%q", all)
			}
			if !refuses(all) {
				found++
			}
		}
		if len(b) == 4 {
			return
		}
		for n := range 20 {
			visit(b + string([]byte{byte(n)}))
		}
	}
	visit("")
	if found < 100 {
		t.Error(found)
	}
}

// P11.5

func TestThereAndBack(t *testing.T) {
	dice := rand.New(rand.NewPCG(5, 11))
	seen := map[api.Errno]int{}
	known := map[string]string{}
	for range 50000 {
		code := someCode(dice)
		if dice.IntN(3) == 0 {
			code = someTurn(dice, code)
		}
		want, err := readEncode(code)
		seen[err]++
		b, e := expr.Encode(code)
		if e != err || b != want {
			t.Fatalf("%v %q %d %d", code, b, e, err)
		}
		if e != api.OK {
			continue
		}
		if back, e := expr.Decode(b); e != api.OK || !slices.Equal(back, code) {
			t.Fatal(code, back, e)
		}
		if text, is := known[b]; is && text != expr.Show(code) {
			t.Fatal(text, expr.Show(code))
		}
		known[b] = expr.Show(code)
	}
	if seen[api.OK] < 1000 || seen[api.ErrForm] < 1000 || seen[api.ErrArg] < 1000 || len(known) < 1000 {
		t.Error(seen, len(known))
	}
}

func TestDecodedCodesAreNew(t *testing.T) {
	first, _ := expr.Decode(threeBytes)
	second, e := expr.Decode(threeBytes)
	if e != api.OK || len(first) != 3 {
		t.Fatal(e)
	}
	for i := range first {
		first[i] = here(5)
	}
	if !slices.Equal(second, three()) {
		t.Error(second)
	}
	if third, e := expr.Decode(threeBytes); e != api.OK || !slices.Equal(third, three()) {
		t.Error(third, e)
	}
}

func FuzzDecode(f *testing.F) {
	f.Add("")
	f.Add(threeBytes)
	f.Add("\x04\x04\x03\x02\x02\x01\x07\x10")
	f.Add("\x1f" + strings.Repeat("\x04", 16) + strings.Repeat("\x05", 15))
	f.Fuzz(func(t *testing.T, bytes string) {
		if !holds(bytes) {
			t.Fatalf("%q", bytes)
		}
	})
}

// FuzzEval takes two bytes an instruction, and one an element.
func FuzzEval(f *testing.F) {
	f.Add("\x01\x05\x02\x01\x07\x00", "\x01\x02\x03", 1)
	f.Add("\x03\x00\x04\x00\x08\x00", "\xfe\x80\x00", 2)
	f.Fuzz(func(t *testing.T, text, elements string, at int) {
		code := []expr.Ins{}
		for ; len(text) > 1; text = text[2:] {
			i := expr.Ins{Op: int(text[0])}
			switch i.Op {
			case expr.Num:
				i.K = ints(int64(int8(text[1])))[0]
			case expr.Elem, expr.Here:
				i.A, i.B = int(text[1])&15, int(text[1])>>4
			}
			code = append(code, i)
		}
		env := expr.Env{Fields: [][]api.Int{{}, {}, {}}, At: at}
		for k := range len(elements) {
			x := append(formless(), top, bottom, api.Int{Hi: 1}, ints(int64(int8(elements[k])))[0])[min(int(elements[k]), 9)]
			env.Fields[k%3] = append(env.Fields[k%3], x)
		}
		want, err := readEval(code, env)
		if y, e := expr.Eval(code, env); e != err || y != want {
			t.Fatal(code, env, y, e, want, err)
		}
		if n, e := grow(code); e == api.OK && expr.Show(code) != n.show() {
			t.Fatal(expr.Show(code), n.show())
		}
	})
}
