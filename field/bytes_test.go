package field_test

import (
	"encoding/binary"
	"math/big"
	"math/rand/v2"
	"strings"
	"testing"

	"retrofit/api"
	"retrofit/field"
	"retrofit/wide"
)

// bytesOf are the lowest bytes of a number, one below 0 as 2^b and it.
func bytesOf(b *big.Int, n int) string {
	if b.Sign() < 0 {
		b = new(big.Int).Add(b, new(big.Int).Lsh(big.NewInt(1), uint(8*n)))
	}
	room := make([]byte, 8)
	binary.LittleEndian.PutUint64(room, b.Uint64())
	return string(room[:n])
}

func wordBytes(word uint64, n int) string { return bytesOf(new(big.Int).SetUint64(word), n) }

func isPutError(k api.Kind, x api.Int, want api.Errno) bool {
	s, e := field.Put(k, x)
	return s == "" && e == want
}

func isGetError(k api.Kind, s string, want api.Errno) bool {
	x, e := field.Get(k, s)
	return x == zero && e == want
}

// isPut: whether a number has just these bytes, both ways.
func isPut(k api.Kind, x api.Int, want string) bool {
	s, e := field.Put(k, x)
	y, f := field.Get(k, want)
	return s == want && y == x && e == api.OK && f == api.OK
}

// P4.2

func TestBytesByHand(t *testing.T) {
	for i, x := range []struct {
		k    api.Kind
		n    int
		want string
	}{
		{api.I16, -2, "\xfe\xff"},
		{api.Bool, 0, "\x00"},
		{api.Bool, 1, "\x01"},
		{api.I8, 127, "\x7f"},
		{api.I8, -128, "\x80"},
		{api.I8, -1, "\xff"},
		{api.I16, 258, "\x02\x01"},
		{api.I16, -32768, "\x00\x80"},
		{api.I16, 32767, "\xff\x7f"},
		{api.I32, -2, "\xfe\xff\xff\xff"},
		{api.I32, -2147483648, "\x00\x00\x00\x80"},
		{api.I32, 0x01020304, "\x04\x03\x02\x01"},
		{api.I64, -1, "\xff\xff\xff\xff\xff\xff\xff\xff"},
		{api.I64, minInt, "\x00\x00\x00\x00\x00\x00\x00\x80"},
		{api.I64, maxInt, "\xff\xff\xff\xff\xff\xff\xff\x7f"},
		{api.U8, 128, "\x80"},
		{api.U8, 255, "\xff"},
		{api.U16, 0x8001, "\x01\x80"},
		{api.U32, 0x80000001, "\x01\x00\x00\x80"},
		{api.U64, 0x0102030405060708, "\x08\x07\x06\x05\x04\x03\x02\x01"},
		{api.Ref, 1<<32 + 7, "\x07\x00\x00\x00\x01\x00\x00\x00"},
	} {
		if !isPut(x.k, wide.Of(x.n), x.want) {
			t.Error(i)
		}
	}
	for _, k := range []api.Kind{api.U64, api.Ref} {
		if !isPut(k, wide.OfWord(maxWord), "\xff\xff\xff\xff\xff\xff\xff\xff") || !isPut(k, wide.OfWord(1<<63), "\x00\x00\x00\x00\x00\x00\x00\x80") {
			t.Error(k)
		}
	}
}

func TestPut(t *testing.T) {
	list := manyNumbers()
	for _, x := range kinds {
		for _, b := range list {
			n := number(b)
			if b.Cmp(big10(x.from)) < 0 || b.Cmp(big10(x.to)) > 0 {
				if !isPutError(x.k, n, api.ErrRange) {
					t.Error(x.name, b)
				}
			} else if !isPut(x.k, n, bytesOf(b, x.bytes)) {
				t.Error(x.name, b)
			}
		}
	}
}

func TestPutOfFormless(t *testing.T) {
	for _, x := range kinds {
		for _, y := range formless {
			if !isPutError(x.k, y, api.ErrRange) {
				t.Error(x.name, y)
			}
		}
	}
}

func TestPutAndGetOfNoKind(t *testing.T) {
	for _, k := range noKinds {
		for _, b := range numbers() {
			if !isPutError(k, number(b), api.ErrArg) {
				t.Error(k, b)
			}
		}
		for _, x := range formless {
			if !isPutError(k, x, api.ErrArg) {
				t.Error(k, x)
			}
		}
		for n := range 20 {
			if !isGetError(k, strings.Repeat("\x00", n), api.ErrArg) {
				t.Error(k, n)
			}
		}
	}
}

func TestGetOfOtherLength(t *testing.T) {
	for _, x := range kinds {
		for n := range 20 {
			for _, c := range []string{"\x00", "\x01", "\xff"} {
				s := strings.Repeat(c, n)
				if n != x.bytes && !isGetError(x.k, s, api.ErrForm) {
					t.Errorf("%s %q", x.name, s)
				}
			}
		}
		if !isGetError(x.k, strings.Repeat("\x00", 1<<20), api.ErrForm) {
			t.Error(x.name)
		}
	}
}

func TestGetOfNoBool(t *testing.T) {
	for n := range 256 {
		s := string([]byte{byte(n)})
		if n > 1 {
			if !isGetError(api.Bool, s, api.ErrForm) {
				t.Error(n)
			}
		} else if !isPut(api.Bool, wide.Of(n), s) {
			t.Error(n)
		}
	}
}

// P4.3

// All bytes of the kinds that have 1 or 2 are those of one number each.
func TestAllOfSmallKinds(t *testing.T) {
	for _, x := range []struct {
		k        api.Kind
		from, to int
	}{
		{api.Bool, 0, 1},
		{api.I8, -128, 127},
		{api.U8, 0, 255},
		{api.I16, -32768, 32767},
		{api.U16, 0, 65535},
	} {
		seen := map[string]int{}
		for n := x.from - 300; n <= x.to+300; n++ {
			s, e := field.Put(x.k, wide.Of(n))
			if n < x.from || n > x.to {
				if s != "" || e != api.ErrRange {
					t.Fatal(x.k, n, e)
				}
				continue
			}
			if e != api.OK || len(s) != field.Size(x.k) {
				t.Fatalf("%d %d %d %q", x.k, n, e, s)
			}
			if other, is := seen[s]; is {
				t.Fatal(x.k, n, other)
			}
			seen[s] = n
		}
		for s, n := range seen {
			if got, e := field.Get(x.k, s); e != api.OK || got != wide.Of(n) {
				t.Fatalf("%d %d %q %d", x.k, n, s, e)
			}
		}
		if len(seen) != x.to-x.from+1 {
			t.Error(x.k, len(seen))
		}
	}
}

// Whatever bytes the greater kinds have, the number that they are is put so again.
func TestGetOfAnyBytes(t *testing.T) {
	dice := rand.New(rand.NewPCG(2, 4))
	for _, x := range kinds {
		if x.k == api.Bool {
			continue
		}
		words := []uint64{0, 1, 1 << 7, 1 << 15, 1 << 31, 1 << 63, maxWord, maxWord - 1}
		for range 3000 {
			words = append(words, dice.Uint64()>>dice.IntN(64))
		}
		for _, word := range words {
			s := wordBytes(word, x.bytes)
			got, e := field.Get(x.k, s)
			if e != api.OK || !field.Fits(x.k, got) || !isPut(x.k, got, s) {
				t.Fatalf("%s %q %d", x.name, s, e)
			}
		}
	}
}

// FuzzBytes: what is got is put just so again, and what is put is got.
func FuzzBytes(f *testing.F) {
	f.Add(1, "\x02", false, uint64(0), uint64(1))
	f.Add(3, "\xfe\xff", true, uint64(0), uint64(2))
	f.Add(9, "\xff\xff\xff\xff\xff\xff\xff\xff", false, uint64(1), uint64(0))
	f.Fuzz(func(t *testing.T, kind int, s string, neg bool, hi, lo uint64) {
		k, x := api.Kind(kind), api.Int{Neg: neg, Hi: hi, Lo: lo}
		if y, e := field.Get(k, s); e == api.OK {
			if again, e := field.Put(k, y); e != api.OK || again != s || len(s) != field.Size(k) {
				t.Fatalf("%q %d", again, e)
			}
		} else if y != zero {
			t.Fatal(y, e)
		}
		bytes, e := field.Put(k, x)
		if (e == api.OK) != field.Fits(k, x) || e != api.OK && bytes != "" {
			t.Fatalf("%q %d", bytes, e)
		}
		if back, e2 := field.Get(k, bytes); e == api.OK && (e2 != api.OK || back != x) {
			t.Fatal(back, e2)
		}
		if near := field.Clamp(k, x); wide.Form(x) && field.Size(k) != 0 && !field.Fits(k, near) || e == api.OK && near != x {
			t.Fatal(near)
		}
	})
}
