package seal_test

import (
	"hash/adler32"
	"math/rand/v2"
	"strings"
	"testing"

	"retrofit/seal"
)

const (
	base   = 65521
	most   = 1 << 31
	maxInt = 1<<63 - 1
	minInt = -1 << 63
)

// sumOf tells a sum by its halves, that may be any.
func sumOf(a, b uint64) uint32 { return uint32(b%base*65536 + a%base) }

// lengths are those at which a sum that is reckoned too late, or at the wrong
// place, shows.
var lengths = []int{
	0, 1, 2, 3, 4, 15, 16, 17, 255, 256, 257, 5551, 5552, 5553, 11104,
	65520, 65521, 65522, 65535, 65536, 65537, 131071, 131072, 131073, 380368, 1 << 20,
}

func someText(dice *rand.Rand, n int) string {
	text := make([]byte, n)
	for i := range text {
		text[i] = byte(dice.Uint32())
	}
	return string(text)
}

// greatHalves are sums of which a half, or both, is 65521 or more.
func greatHalves() []uint32 {
	list := []uint32{}
	for great := uint32(base); great <= 65535; great++ {
		for _, half := range []uint32{0, 1, 77, base - 1, base, 65535} {
			list = append(list, great<<16|half, half<<16|great)
		}
	}
	return list
}

// small is the same sum with its halves below 65521.
func small(sum uint32) uint32 { return sumOf(uint64(sum&0xffff), uint64(sum>>16)) }

// P3.1

func TestKnownSums(t *testing.T) {
	for i, x := range []struct {
		s    string
		want uint32
	}{
		{"", 1},
		{"Wikipedia", 300286872},
		{"a", 0x00620062},
		{"abc", 0x024d0127},
		{"\x00", 0x00010001},
		{"\x00\x00\x00", 0x00030001},
		{"\xff", 0x01000100},
		{"\xff\x00", 0x02000100},
		{"\x00\xff", 0x01010100},
		{"\u00e9", 0x0231016d},
	} {
		if got := seal.Of(x.s); got != x.want {
			t.Errorf("%d %#x", i, got)
		}
	}
}

func TestOf(t *testing.T) {
	dice := rand.New(rand.NewPCG(1, 3))
	for _, n := range lengths {
		for _, s := range []string{strings.Repeat("\xff", n), strings.Repeat("\x00", n), someText(dice, n)} {
			if got := seal.Of(s); got != adler32.Checksum([]byte(s)) {
				t.Errorf("%d %#x", n, got)
			}
		}
	}
}

// Each half comes to 65520, and then round to 0, and not beyond.
func TestHalvesComeRound(t *testing.T) {
	for i, x := range []struct {
		sum  uint32
		s    string
		want uint32
	}{
		{sumOf(65519, 0), "\x01", sumOf(65520, 65520)},
		{sumOf(65520, 0), "\x01", sumOf(0, 0)},
		{sumOf(65520, 0), "\x02", sumOf(1, 1)},
		{sumOf(65520, 65520), "\x00", sumOf(65520, 65519)},
		{sumOf(1, 65519), "\x00", sumOf(1, 65520)},
		{sumOf(1, 65520), "\x00", sumOf(1, 0)},
		{sumOf(65520, 65520), "\xff", sumOf(254, 253)},
		{0, "", 0},
		{0, "\x00", 0},
	} {
		if got := seal.More(x.sum, x.s); got != x.want {
			t.Errorf("%d %#x", i, got)
		}
	}
}

func TestMore(t *testing.T) {
	dice := rand.New(rand.NewPCG(2, 3))
	for _, n := range lengths {
		for range 3 {
			s := someText(dice, n)
			cut := dice.IntN(n + 1)
			if got := seal.More(seal.Of(s[:cut]), s[cut:]); got != adler32.Checksum([]byte(s)) {
				t.Errorf("%d %d %#x", n, cut, got)
			}
		}
	}
	s := someText(dice, 600)
	sum := seal.Of("")
	for i := range len(s) {
		sum = seal.More(sum, s[i:i+1])
		if sum != seal.Of(s[:i+1]) || seal.More(sum, "") != sum {
			t.Fatal(i)
		}
	}
}

func TestMoreOfGreatHalves(t *testing.T) {
	for _, sum := range greatHalves() {
		if got := seal.More(sum, ""); got != small(sum) {
			t.Errorf("%#x %#x", sum, got)
		}
		for _, s := range []string{"\x00", "\xff", "retrofit", strings.Repeat("\xfe", 70000)} {
			if got := seal.More(sum, s); got != seal.More(small(sum), s) {
				t.Errorf("%#x %d %#x", sum, len(s), got)
			}
		}
	}
}

// P3.2

func TestRoll(t *testing.T) {
	dice := rand.New(rand.NewPCG(4, 3))
	for _, n := range lengths[1:] {
		s := someText(dice, n+20)
		sum := seal.Of(s[:n])
		for i := range 20 {
			sum = seal.Roll(sum, n, s[i], s[n+i])
			if sum != seal.Of(s[i+1:n+i+1]) {
				t.Fatalf("%d %d %#x", n, i, sum)
			}
		}
	}
}

func TestRollOfAnyTwoBytes(t *testing.T) {
	for _, n := range []int{1, 2, 257, 300} {
		rest := strings.Repeat("\xd3", n-1)
		for out := range 256 {
			sum := seal.Of(string([]byte{byte(out)}) + rest)
			for in := range 256 {
				want := seal.Of(rest + string([]byte{byte(in)}))
				if got := seal.Roll(sum, n, byte(out), byte(in)); got != want {
					t.Fatalf("%d %d %d %#x", n, out, in, got)
				}
			}
		}
	}
}

// Of n bytes all of which are 0, but the first or the last, the sum can be
// told without the bytes.
func TestRollOfManyBytes(t *testing.T) {
	for _, n := range []int{base - 1, base, base + 1, 1<<24 + 3, most - base, most - 2, most - 1, most} {
		count := uint64(n)
		for _, x := range []byte{0, 1, 7, 128, 255} {
			byteAhead := sumOf(1+uint64(x), count+count*uint64(x))
			byteBehind := sumOf(1+uint64(x), count+uint64(x))
			none := sumOf(1, count)
			if got := seal.Roll(byteAhead, n, x, 0); got != none {
				t.Errorf("%d %d %#x", n, x, got)
			}
			if got := seal.Roll(none, n, 0, x); got != byteBehind {
				t.Errorf("%d %d %#x", n, x, got)
			}
			if got := seal.Roll(byteAhead, n, x, x); got != byteBehind {
				t.Errorf("%d %d %#x", n, x, got)
			}
		}
	}
}

func TestRollOfNoCount(t *testing.T) {
	sums := append(greatHalves(), 0, 1, 5, 0x11e60398)
	for _, n := range []int{0, -1, -2, -most, most + 1, most + 2, 1 << 32, 1<<32 + 1, maxInt, minInt, minInt + 1} {
		for _, sum := range sums {
			if got := seal.Roll(sum, n, 1, 2); got != 0 {
				t.Errorf("%d %#x %#x", n, sum, got)
			}
		}
	}
}

func TestRollOfGreatHalves(t *testing.T) {
	for _, sum := range greatHalves() {
		for _, n := range []int{1, 2, 1000, base, most} {
			for _, x := range [][2]byte{{0, 0}, {255, 0}, {0, 255}, {17, 17}} {
				got := seal.Roll(sum, n, x[0], x[1])
				if got != seal.Roll(small(sum), n, x[0], x[1]) || got != small(got) {
					t.Errorf("%#x %d %#x", sum, n, got)
				}
			}
		}
	}
}

func TestJoin(t *testing.T) {
	dice := rand.New(rand.NewPCG(5, 3))
	for _, n := range lengths {
		for _, size := range []int{0, 1, 2, 300, 70000} {
			x, y := someText(dice, size), someText(dice, n)
			if got := seal.Join(seal.Of(x), seal.Of(y), n); got != seal.Of(x+y) {
				t.Errorf("%d %d %#x", size, n, got)
			}
		}
	}
}

func TestJoinInOrder(t *testing.T) {
	x, y := seal.Of("Wiki"), seal.Of("pedia")
	if got := seal.Join(x, y, 5); got != 300286872 {
		t.Errorf("%#x", got)
	}
	if seal.Join(y, x, 4) != seal.Of("pediaWiki") || seal.Of("pediaWiki") == 300286872 {
		t.Error("the other way")
	}
}

// The sum of 2^k times the same byte is made by joining halves of it, up to
// 2^31 behind one more.
func TestJoinOfManyBytes(t *testing.T) {
	for _, x := range []byte{0, 1, 99, 255} {
		sum := seal.Of(string([]byte{x}))
		for n := uint64(1); n <= most; n *= 2 {
			want := sumOf(1+n*uint64(x), n+n*(n+1)/2%base*uint64(x))
			if sum != want {
				t.Fatalf("%d %d %#x", x, n, sum)
			}
			got := seal.Join(seal.Of("\xfe"), sum, int(n))
			want = sumOf(1+254+n*uint64(x), 255+n*255+n*(n+1)/2%base*uint64(x))
			if got != want {
				t.Errorf("%d %d %#x", x, n, got)
			}
			sum = seal.Join(sum, sum, int(n))
		}
	}
}

func TestJoinOfNoBytes(t *testing.T) {
	for _, s := range []string{"", "a", "Wikipedia", strings.Repeat("\xff", 1000)} {
		if seal.Join(seal.Of(s), seal.Of(""), 0) != seal.Of(s) || seal.Join(seal.Of(""), seal.Of(s), len(s)) != seal.Of(s) {
			t.Error(len(s))
		}
	}
}

func TestJoinOfNoCount(t *testing.T) {
	sums := append(greatHalves(), 0, 1, 5, 0x11e60398)
	for _, n := range []int{-1, -2, -most, most + 1, most + 2, 1 << 32, 1<<32 + 1, maxInt, minInt, minInt + 1} {
		for _, sum := range sums {
			if got := seal.Join(sum, sum, n); got != 0 {
				t.Errorf("%d %#x %#x", n, sum, got)
			}
		}
	}
}

func TestJoinOfGreatHalves(t *testing.T) {
	others := []uint32{0, 1, 0x11e60398, 0xffffffff, sumOf(65520, 65520)}
	for _, sum := range greatHalves() {
		for _, n := range []int{0, 1, 1000, base, most} {
			for _, other := range others {
				got := seal.Join(sum, other, n)
				if got != seal.Join(small(sum), small(other), n) || got != small(got) {
					t.Errorf("%#x %#x %d %#x", sum, other, n, got)
				}
				got = seal.Join(other, sum, n)
				if got != seal.Join(small(other), small(sum), n) || got != small(got) {
					t.Errorf("%#x %#x %d %#x", other, sum, n, got)
				}
			}
		}
	}
}

// P3.4

func TestOneByteTurned(t *testing.T) {
	dice := rand.New(rand.NewPCG(6, 3))
	for _, n := range []int{1, 2, 30, 257, base + 1} {
		text := []byte(someText(dice, n))
		sum := seal.Of(string(text))
		for _, at := range []int{0, n / 2, n - 1, dice.IntN(n)} {
			was := text[at]
			for turn := 1; turn < 256; turn += 1 + n/1000 {
				text[at] = was ^ byte(turn)
				if seal.Of(string(text)) == sum {
					t.Fatal(n, at, turn)
				}
			}
			text[at] = was
		}
	}
}

// FuzzSum holds the three ways to a sum against each other.
func FuzzSum(f *testing.F) {
	f.Add("Wikipedia", 4)
	f.Add("", 0)
	f.Fuzz(func(t *testing.T, s string, cut int) {
		want := adler32.Checksum([]byte(s))
		cut = max(0, min(cut, len(s)))
		x, y := s[:cut], s[cut:]
		if seal.Of(s) != want || seal.More(seal.Of(x), y) != want || seal.Join(seal.Of(x), seal.Of(y), len(y)) != want {
			t.Fatal(cut)
		}
		if len(s) > 1 && seal.Roll(seal.Of(s[:len(s)-1]), len(s)-1, s[0], s[len(s)-1]) != seal.Of(s[1:]) {
			t.Fatal("roll")
		}
	})
}
