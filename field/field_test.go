package field_test

import (
	"math/big"
	"math/rand/v2"
	"strings"
	"testing"

	"retrofit/api"
	"retrofit/field"
	"retrofit/wide"
)

const (
	maxWord = 1<<64 - 1
	maxInt  = 1<<63 - 1
	minInt  = -1 << 63
)

var zero api.Int

// kinds is the document's table, its bounds in digits.
var kinds = []struct {
	k        api.Kind
	name     string
	bytes    int
	from, to string
}{
	{api.Bool, "bool", 1, "0", "1"},
	{api.I8, "i8", 1, "-128", "127"},
	{api.I16, "i16", 2, "-32768", "32767"},
	{api.I32, "i32", 4, "-2147483648", "2147483647"},
	{api.I64, "i64", 8, "-9223372036854775808", "9223372036854775807"},
	{api.U8, "u8", 1, "0", "255"},
	{api.U16, "u16", 2, "0", "65535"},
	{api.U32, "u32", 4, "0", "4294967295"},
	{api.U64, "u64", 8, "0", "18446744073709551615"},
	{api.Ref, "ref", 8, "0", "18446744073709551615"},
}

var noKinds = []api.Kind{0, -1, -2, -10, 11, 12, 16, 255, 256, 257, 1<<32 + 1, maxInt, minInt, minInt + 1}

// formless are numbers that aren't in form; the lower word of each would do.
var formless = []api.Int{
	{Neg: true},
	{Hi: 1 << 63},
	{Hi: 1 << 63, Lo: 1},
	{Neg: true, Hi: 1 << 63},
	{Neg: true, Hi: 1 << 63, Lo: 1},
	{Hi: maxWord, Lo: maxWord},
	{Neg: true, Hi: maxWord, Lo: maxWord},
}

func big10(s string) *big.Int {
	b, _ := new(big.Int).SetString(s, 10)
	return b
}

func number(b *big.Int) api.Int {
	x, e := wide.Parse(b.String())
	if e != api.OK {
		panic(b.String())
	}
	return x
}

// numbers are those at and beside all kinds' bounds, some beyond a word, and
// the greatest that there is; each with both signs.
func numbers() []*big.Int {
	list := []*big.Int{}
	for _, n := range []uint{0, 1, 7, 8, 15, 16, 31, 32, 63, 64, 65, 72, 126} {
		for d := int64(-3); d <= 3; d++ {
			b := new(big.Int).Lsh(big.NewInt(1), n)
			b.Add(b, big.NewInt(d))
			list = append(list, b, new(big.Int).Neg(b))
		}
	}
	most := big10("170141183460469231731687303715884105727")
	return append(list, most, new(big.Int).Neg(most))
}

// someNumber has any sign, and as many bits as the dice say.
func someNumber(dice *rand.Rand) *big.Int {
	b := new(big.Int).SetUint64(dice.Uint64())
	b.Lsh(b, 64).Or(b, new(big.Int).SetUint64(dice.Uint64()))
	b.Rsh(b, uint(1+dice.IntN(127)))
	if dice.IntN(2) == 0 {
		b.Neg(b)
	}
	return b
}

func manyNumbers() []*big.Int {
	list := numbers()
	dice := rand.New(rand.NewPCG(1, 4))
	for range 2000 {
		list = append(list, someNumber(dice))
	}
	return list
}

// P4.1

func TestTable(t *testing.T) {
	if len(kinds) != int(api.Ref) {
		t.Fatal(len(kinds))
	}
	for i, x := range kinds {
		if int(x.k) != i+1 {
			t.Errorf("%d %d", i, x.k)
		}
		if got := field.Size(x.k); got != x.bytes {
			t.Errorf("%s %d", x.name, got)
		}
		if got := field.Name(x.k); got != x.name {
			t.Errorf("%s %q", x.name, got)
		}
		if got := field.Least(x.k); got != number(big10(x.from)) {
			t.Errorf("%s %s", x.name, wide.Text(got))
		}
		if got := field.Greatest(x.k); got != number(big10(x.to)) {
			t.Errorf("%s %s", x.name, wide.Text(got))
		}
		if k, ok := field.Named(x.name); !ok || k != x.k {
			t.Errorf("%s %d %v", x.name, k, ok)
		}
	}
}

func TestNoKind(t *testing.T) {
	for _, k := range noKinds {
		if field.Size(k) != 0 || field.Name(k) != "" || field.Least(k) != zero || field.Greatest(k) != zero {
			t.Error(k)
		}
		for _, b := range numbers() {
			if x := number(b); field.Fits(k, x) || field.Clamp(k, x) != zero {
				t.Error(k, b)
			}
		}
		for _, x := range formless {
			if field.Fits(k, x) || field.Clamp(k, x) != zero {
				t.Error(k, x)
			}
		}
	}
}

func TestNoName(t *testing.T) {
	list := []string{
		"", " ", "0", "1", "-", "i", "u", "I8", "U8", "Bool", "BOOL", "REF", "i7", "i08", "i9", "i80", "i24", "i128", "u1",
		"int", "int8", "uint8", "f32", "boo", "re", "refs", "\u0131\u0038", "8i", "\x00",
	}
	for _, x := range kinds {
		list = append(list, " "+x.name, x.name+" ", x.name+"\x00", x.name+x.name, x.name[1:], x.name[:len(x.name)-1], strings.ToUpper(x.name))
	}
	for _, s := range list {
		if k, ok := field.Named(s); ok || k != 0 {
			t.Errorf("%q %d", s, k)
		}
	}
}

func TestFitsAndClamp(t *testing.T) {
	list := manyNumbers()
	for _, x := range kinds {
		from, to := big10(x.from), big10(x.to)
		for _, b := range list {
			near, fits := b, true
			if b.Cmp(from) < 0 {
				near, fits = from, false
			}
			if b.Cmp(to) > 0 {
				near, fits = to, false
			}
			if got := field.Fits(x.k, number(b)); got != fits {
				t.Errorf("%s %s %v", x.name, b, got)
			}
			if got := field.Clamp(x.k, number(b)); got != number(near) {
				t.Errorf("%s %s %s", x.name, b, wide.Text(got))
			}
		}
	}
}

func TestFormless(t *testing.T) {
	for _, x := range kinds {
		for _, y := range formless {
			if field.Fits(x.k, y) || field.Clamp(x.k, y) != zero {
				t.Error(x.name, y)
			}
		}
	}
}
