package wide_test

import (
	"math/big"
	"math/rand/v2"
	"testing"

	"retrofit/api"
	"retrofit/wide"
)

const (
	top63   = 1<<63 - 1
	maxWord = 1<<64 - 1
	most    = "170141183460469231731687303715884105727"
	beyond  = "170141183460469231731687303715884105728"
)

var zero api.Int

// formless are numbers that aren't in form.
var formless = []api.Int{
	{Neg: true},
	{Hi: 1 << 63},
	{Neg: true, Hi: 1 << 63},
	{Hi: 1 << 63, Lo: 1},
	{Hi: maxWord, Lo: maxWord},
	{Neg: true, Hi: maxWord, Lo: maxWord},
}

// edges are sizes at which something changes: of a word, of an int, of a
// half word, of a chunk of digits, of the greatest number.
func edges() []*big.Int {
	two := func(n uint) *big.Int { return new(big.Int).Lsh(big.NewInt(1), n) }
	ten := func(n int64) *big.Int { return new(big.Int).Exp(big.NewInt(10), big.NewInt(n), nil) }
	list := []*big.Int{big.NewInt(0), big.NewInt(3), big.NewInt(7), big.NewInt(10)}
	for _, n := range []*big.Int{
		two(0), two(31), two(32), two(62), two(63), two(64), two(65), two(95), two(96), two(126), two(127),
		ten(18), ten(19), ten(20), ten(37), ten(38), big.NewInt(0).Mul(two(64), big.NewInt(3)),
		new(big.Int).Lsh(new(big.Int).Sub(two(63), big.NewInt(1)), 64),
	} {
		for d := int64(-2); d <= 2; d++ {
			list = append(list, new(big.Int).Add(n, big.NewInt(d)))
		}
	}
	return list
}

func inBounds(b *big.Int) bool { return b.BitLen() <= 127 }

func fromBig(b *big.Int) api.Int {
	size := new(big.Int).Abs(b)
	hi := new(big.Int).Rsh(size, 64).Uint64()
	lo := new(big.Int).And(size, new(big.Int).SetUint64(maxWord)).Uint64()
	return api.Int{Neg: b.Sign() < 0, Hi: hi, Lo: lo}
}

// numbers are the edges with both signs, as far as they are in bounds.
func numbers() []*big.Int {
	list := []*big.Int{}
	for _, b := range edges() {
		if inBounds(b) {
			list = append(list, b, new(big.Int).Neg(b))
		}
	}
	return list
}

// someNumber has any sign, and as many bits as the dice say.
func someNumber(dice *rand.Rand) *big.Int {
	b := new(big.Int).SetUint64(dice.Uint64())
	b.Lsh(b, 64).Or(b, new(big.Int).SetUint64(dice.Uint64()))
	b.Rsh(b, uint(1+dice.IntN(127)))
	if dice.IntN(2) == 0 {
		b.Neg(b)
	}
	return b
}

// eachPair goes over all pairs of numbers, and some in between.
func eachPair(do func(a, b *big.Int)) {
	list := numbers()
	for _, a := range list {
		for _, b := range list {
			do(a, b)
		}
	}
	dice := rand.New(rand.NewPCG(1, 2))
	for range 50000 {
		do(someNumber(dice), someNumber(dice))
	}
}

// P1.1

func TestForm(t *testing.T) {
	for i, x := range []api.Int{
		{}, {Lo: 1}, {Neg: true, Lo: 1}, {Lo: maxWord}, {Hi: 1}, {Neg: true, Hi: 1},
		{Hi: top63, Lo: maxWord}, {Neg: true, Hi: top63, Lo: maxWord}, {Neg: true, Hi: top63},
	} {
		if !wide.Form(x) {
			t.Error(i, x)
		}
	}
	for i, x := range formless {
		if wide.Form(x) {
			t.Error(i, x)
		}
	}
}

func TestOf(t *testing.T) {
	for i, x := range []struct {
		n    int
		want api.Int
	}{
		{0, zero},
		{1, api.Int{Lo: 1}},
		{-1, api.Int{Neg: true, Lo: 1}},
		{300, api.Int{Lo: 300}},
		{-300, api.Int{Neg: true, Lo: 300}},
		{top63, api.Int{Lo: top63}},
		{-top63, api.Int{Neg: true, Lo: top63}},
		{-1 << 63, api.Int{Neg: true, Lo: 1 << 63}},
	} {
		if z := wide.Of(x.n); z != x.want {
			t.Error(i, x.n, z)
		}
	}
}

func TestOfWord(t *testing.T) {
	for _, n := range []uint64{0, 1, 300, top63, 1 << 63, maxWord} {
		if z := wide.OfWord(n); z != (api.Int{Lo: n}) {
			t.Error(n, z)
		}
	}
}

func TestSign(t *testing.T) {
	for i, x := range []struct {
		x    api.Int
		want int
	}{
		{zero, 0},
		{api.Int{Lo: 1}, 1},
		{api.Int{Neg: true, Lo: 1}, -1},
		{api.Int{Hi: 1}, 1},
		{api.Int{Neg: true, Hi: 1}, -1},
		{api.Int{Hi: top63, Lo: maxWord}, 1},
		{api.Int{Neg: true, Hi: top63, Lo: maxWord}, -1},
	} {
		if got := wide.Sign(x.x); got != x.want {
			t.Error(i, x.x, got)
		}
	}
	for i, x := range formless {
		if got := wide.Sign(x); got != 0 {
			t.Error(i, x, got)
		}
	}
}

func TestCmp(t *testing.T) {
	eachPair(func(a, b *big.Int) {
		if got := wide.Cmp(fromBig(a), fromBig(b)); got != a.Cmp(b) {
			t.Fatal(a, b, got)
		}
	})
	for i, x := range formless {
		for _, y := range append([]api.Int{zero, wide.Of(5), wide.Of(-5)}, formless...) {
			if got := wide.Cmp(x, y); got != 0 {
				t.Error(i, x, y, got)
			}
			if got := wide.Cmp(y, x); got != 0 {
				t.Error(i, y, x, got)
			}
		}
	}
}

func TestNeg(t *testing.T) {
	for i, x := range []struct{ x, want api.Int }{
		{zero, zero},
		{api.Int{Lo: 7}, api.Int{Neg: true, Lo: 7}},
		{api.Int{Neg: true, Lo: 7}, api.Int{Lo: 7}},
		{api.Int{Hi: 3}, api.Int{Neg: true, Hi: 3}},
		{api.Int{Hi: top63, Lo: maxWord}, api.Int{Neg: true, Hi: top63, Lo: maxWord}},
		{api.Int{Neg: true, Hi: top63, Lo: maxWord}, api.Int{Hi: top63, Lo: maxWord}},
	} {
		if got := wide.Neg(x.x); got != x.want {
			t.Error(i, x.x, got)
		}
	}
	for i, x := range formless {
		if got := wide.Neg(x); got != zero {
			t.Error(i, x, got)
		}
	}
}

// P1.2

type calc func(x, y api.Int) (api.Int, api.Errno)

func TestCalcByHand(t *testing.T) {
	for i, x := range []struct {
		do         calc
		a, b, want string
		err        api.Errno
	}{
		{wide.Add, "0", "0", "0", api.OK},
		{wide.Add, "2", "3", "5", api.OK},
		{wide.Add, "2", "-3", "-1", api.OK},
		{wide.Add, "-2", "3", "1", api.OK},
		{wide.Add, "-2", "-3", "-5", api.OK},
		{wide.Add, "7", "-7", "0", api.OK},
		{wide.Add, "18446744073709551615", "18446744073709551615", "36893488147419103230", api.OK},
		{wide.Add, "170141183460469231731687303715884105726", "1", most, api.OK},
		{wide.Add, most, "1", "0", api.ErrRange},
		{wide.Add, "-" + most, "-1", "0", api.ErrRange},
		{wide.Add, most, most, "0", api.ErrRange},
		{wide.Add, most, "-" + most, "0", api.OK},
		{wide.Sub, "2", "3", "-1", api.OK},
		{wide.Sub, "-2", "-3", "1", api.OK},
		{wide.Sub, "0", "0", "0", api.OK},
		{wide.Sub, "0", most, "-" + most, api.OK},
		{wide.Sub, "18446744073709551616", "1", "18446744073709551615", api.OK},
		{wide.Sub, "-" + most, "1", "0", api.ErrRange},
		{wide.Sub, most, "-1", "0", api.ErrRange},
		{wide.Mul, "6", "7", "42", api.OK},
		{wide.Mul, "-6", "7", "-42", api.OK},
		{wide.Mul, "6", "-7", "-42", api.OK},
		{wide.Mul, "-6", "-7", "42", api.OK},
		{wide.Mul, "-6", "0", "0", api.OK},
		{wide.Mul, "0", "-6", "0", api.OK},
		{wide.Mul, most, "-1", "-" + most, api.OK},
		{wide.Mul, most, "2", "0", api.ErrRange},
		{wide.Mul, "18446744073709551616", "18446744073709551616", "0", api.ErrRange},
		{wide.Mul, "18446744073709551615", "-18446744073709551615", "0", api.ErrRange},
		{wide.Mul, "18446744073709551616", "9223372036854775808", "0", api.ErrRange},
		{wide.Quo, "7", "2", "3", api.OK},
		{wide.Quo, "-7", "2", "-3", api.OK},
		{wide.Quo, "7", "-2", "-3", api.OK},
		{wide.Quo, "-7", "-2", "3", api.OK},
		{wide.Quo, "-1", "2", "0", api.OK},
		{wide.Quo, "0", "-2", "0", api.OK},
		{wide.Quo, most, "18446744073709551616", "9223372036854775807", api.OK},
		{wide.Quo, "0", "0", "0", api.ErrArg},
		{wide.Rem, "7", "2", "1", api.OK},
		{wide.Rem, "-7", "2", "-1", api.OK},
		{wide.Rem, "7", "-2", "1", api.OK},
		{wide.Rem, "-7", "-2", "-1", api.OK},
		{wide.Rem, "-6", "2", "0", api.OK},
		{wide.Rem, most, "18446744073709551616", "18446744073709551615", api.OK},
		{wide.Rem, "5", "0", "0", api.ErrArg},
		{wide.Rem, "0", "0", "0", api.ErrArg},
	} {
		z, err := x.do(fromText(t, x.a), fromText(t, x.b))
		if err != x.err || z != fromText(t, x.want) {
			t.Error(i, x.a, x.b, z, err)
		}
	}
}

// fromText asks nothing of what is tested.
func fromText(t *testing.T, s string) api.Int {
	b, ok := new(big.Int).SetString(s, 10)
	if !ok {
		t.Fatal(s)
	}
	return fromBig(b)
}

func TestCalc(t *testing.T) {
	quo := func(a, b *big.Int) *big.Int { return new(big.Int).Quo(a, b) }
	rem := func(a, b *big.Int) *big.Int { return new(big.Int).Rem(a, b) }
	add := func(a, b *big.Int) *big.Int { return new(big.Int).Add(a, b) }
	sub := func(a, b *big.Int) *big.Int { return new(big.Int).Sub(a, b) }
	mul := func(a, b *big.Int) *big.Int { return new(big.Int).Mul(a, b) }
	for _, x := range []struct {
		name    string
		do      calc
		model   func(a, b *big.Int) *big.Int
		divides bool
	}{
		{"add", wide.Add, add, false},
		{"sub", wide.Sub, sub, false},
		{"mul", wide.Mul, mul, false},
		{"quo", wide.Quo, quo, true},
		{"rem", wide.Rem, rem, true},
	} {
		eachPair(func(a, b *big.Int) {
			want, wantErr := zero, api.ErrArg
			if !x.divides || b.Sign() != 0 {
				want, wantErr = bounded(x.model(a, b))
			}
			got, err := x.do(fromBig(a), fromBig(b))
			if got != want || err != wantErr {
				t.Fatal(x.name, a, b, got, err)
			}
		})
	}
}

func bounded(b *big.Int) (api.Int, api.Errno) {
	if !inBounds(b) {
		return zero, api.ErrRange
	}
	return fromBig(b), api.OK
}

func TestCalcFormless(t *testing.T) {
	good := []api.Int{zero, wide.Of(1), wide.Of(-1), {Hi: top63, Lo: maxWord}, {Neg: true, Hi: top63, Lo: maxWord}}
	for i, do := range []calc{wide.Add, wide.Sub, wide.Mul, wide.Quo, wide.Rem} {
		for _, x := range formless {
			for _, y := range append(good, formless...) {
				if z, err := do(x, y); z != zero || err != api.ErrArg {
					t.Error(i, x, y, z, err)
				}
				if z, err := do(y, x); z != zero || err != api.ErrArg {
					t.Error(i, y, x, z, err)
				}
			}
		}
	}
}

// P1.3

func TestSmall(t *testing.T) {
	for _, n := range []int{0, 1, -1, 300, -300, top63 - 1, top63, -top63, -1 << 63} {
		if got, ok := wide.Small(fromBig(big.NewInt(int64(n)))); got != n || !ok {
			t.Error(n, got, ok)
		}
	}
	for i, x := range append([]api.Int{
		{Lo: 1 << 63},
		{Lo: maxWord},
		{Neg: true, Lo: 1<<63 + 1},
		{Neg: true, Lo: maxWord},
		{Hi: 1},
		{Hi: 1, Lo: 5},
		{Neg: true, Hi: 1},
		{Neg: true, Hi: 1, Lo: 5},
		{Hi: top63, Lo: maxWord},
	}, formless...) {
		if got, ok := wide.Small(x); got != 0 || ok {
			t.Error(i, x, got, ok)
		}
	}
}

func TestText(t *testing.T) {
	for i, x := range []struct {
		x    api.Int
		want string
	}{
		{zero, "0"},
		{api.Int{Lo: 7}, "7"},
		{api.Int{Neg: true, Lo: 7}, "-7"},
		{api.Int{Lo: 1000}, "1000"},
		{api.Int{Lo: maxWord}, "18446744073709551615"},
		{api.Int{Hi: 1}, "18446744073709551616"},
		{api.Int{Neg: true, Hi: 1}, "-18446744073709551616"},
		{api.Int{Hi: 5421010862427522170, Lo: 687399551400673280}, "100000000000000000000000000000000000000"},
		{api.Int{Hi: top63, Lo: maxWord}, most},
		{api.Int{Neg: true, Hi: top63, Lo: maxWord}, "-" + most},
	} {
		if got := wide.Text(x.x); got != x.want {
			t.Error(i, x.x, got)
		}
	}
	for i, x := range formless {
		if got := wide.Text(x); got != "" {
			t.Error(i, x, got)
		}
	}
}

func TestTextOfAll(t *testing.T) {
	eachPair(func(a, _ *big.Int) {
		if got := wide.Text(fromBig(a)); got != a.String() {
			t.Fatal(a, got)
		}
	})
}

func TestParse(t *testing.T) {
	for i, x := range []struct {
		s    string
		want api.Int
	}{
		{"0", zero},
		{"7", api.Int{Lo: 7}},
		{"-7", api.Int{Neg: true, Lo: 7}},
		{"10", api.Int{Lo: 10}},
		{"1234567890", api.Int{Lo: 1234567890}},
		{"18446744073709551615", api.Int{Lo: maxWord}},
		{"18446744073709551616", api.Int{Hi: 1}},
		{"-18446744073709551616", api.Int{Neg: true, Hi: 1}},
		{most, api.Int{Hi: top63, Lo: maxWord}},
		{"-" + most, api.Int{Neg: true, Hi: top63, Lo: maxWord}},
	} {
		if got, err := wide.Parse(x.s); got != x.want || err != api.OK {
			t.Error(i, x.s, got, err)
		}
	}
}

func TestParseOfAll(t *testing.T) {
	for _, b := range edges() {
		for _, n := range []*big.Int{b, new(big.Int).Neg(b)} {
			want, wantErr := bounded(n)
			if got, err := wide.Parse(n.String()); got != want || err != wantErr {
				t.Error(n, got, err)
			}
		}
	}
}

func TestParseTooGreat(t *testing.T) {
	long := make([]byte, 1<<20)
	for i := range long {
		long[i] = '9'
	}
	for i, s := range []string{
		beyond,
		"-" + beyond,
		"170141183460469231731687303715884105730",
		// Just 2^128 and some more: what is lost beyond 128 bits is small.
		"340282366920938463463374607431768211456",
		"340282366920938463463374607431768211459",
		// Ten times it is lost beyond 128 bits.
		"1000000000000000000000000000000000000000",
		"1701411834604692317316873037158841057280",
		"3402823669209384634633746074317682114560",
		"34028236692093846346337460743176821145600",
		string(long),
		"-" + string(long),
	} {
		if got, err := wide.Parse(s); got != zero || err != api.ErrRange {
			t.Error(i, got, err)
		}
	}
}

func TestParseFormless(t *testing.T) {
	for i, s := range []string{
		"", "-", "--", "--1", "+1", "+", "01", "00", "007", "-01", "-00", "-0",
		" 1", "1 ", "1\n", "\t1", "1-", "1-1", "- 1", "0x1", "1.0", "1e3", "1_000", "1,000",
		"a", "1a", "a1", "/", ":", "1/", "1:", "1\x00", "\xff", "1\xff", "\u0661", "\uff11", "\u22121",
		// ErrForm is ahead of ErrRange.
		beyond + "x", "-" + beyond + " ", "0" + beyond, "-0" + beyond, "--" + beyond, beyond + beyond + "-",
	} {
		if got, err := wide.Parse(s); got != zero || err != api.ErrForm {
			t.Error(i, s, got, err)
		}
	}
}

func TestParseOfTwoBytes(t *testing.T) {
	for i := range 1 << 16 {
		s := string([]byte{byte(i >> 8), byte(i)})
		_, err := wide.Parse(s)
		lead := s[0] == '-' || s[0] >= '1' && s[0] <= '9'
		digit := s[1] >= '0' && s[1] <= '9'
		if is := lead && digit && s != "-0"; is != (err == api.OK) {
			t.Errorf("%q %v", s, err)
		}
	}
}

// P1.4

func TestQuoAndRemTogether(t *testing.T) {
	eachPair(func(a, b *big.Int) {
		if b.Sign() == 0 {
			return
		}
		x, y := fromBig(a), fromBig(b)
		whole, err := wide.Quo(x, y)
		if err != api.OK {
			t.Fatal(a, b, err)
		}
		left, err := wide.Rem(x, y)
		if err != api.OK {
			t.Fatal(a, b, err)
		}
		back, err := wide.Mul(y, whole)
		if err != api.OK {
			t.Fatal(a, b, err)
		}
		if back, err = wide.Add(back, left); back != x || err != api.OK {
			t.Fatal(a, b, back, err)
		}
		if sign := wide.Sign(left); sign != 0 && sign != wide.Sign(x) {
			t.Fatal(a, b, left)
		}
	})
}

func TestAddedIsTakenAway(t *testing.T) {
	eachPair(func(a, b *big.Int) {
		x, y := fromBig(a), fromBig(b)
		sum, err := wide.Add(x, y)
		if err != api.OK {
			return
		}
		if back, err := wide.Sub(sum, y); back != x || err != api.OK {
			t.Fatal(a, b, back, err)
		}
	})
}

func TestTextTellsItsNumber(t *testing.T) {
	eachPair(func(a, _ *big.Int) {
		x := fromBig(a)
		if back, err := wide.Parse(wide.Text(x)); back != x || err != api.OK {
			t.Fatal(a, back, err)
		}
	})
}
