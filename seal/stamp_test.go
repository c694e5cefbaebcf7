package seal_test

import (
	"hash/adler32"
	"math/rand/v2"
	"strings"
	"testing"

	"retrofit/api"
	"retrofit/seal"
)

// lowFirst are a sum's 4 bytes.
func lowFirst(sum uint32) string {
	return string([]byte{byte(sum), byte(sum >> 8), byte(sum >> 16), byte(sum >> 24)})
}

func highFirst(sum uint32) string {
	return string([]byte{byte(sum >> 24), byte(sum >> 16), byte(sum >> 8), byte(sum)})
}

// isNone: whether there are no bytes with such a stamp.
func isNone(s string) bool {
	text, e := seal.Open(s)
	return text == "" && e == api.ErrForm
}

// P3.3

func TestStampByHand(t *testing.T) {
	for i, x := range []struct{ s, want string }{
		{"", "\x01\x00\x00\x00"},
		{"a", "a\x62\x00\x62\x00"},
		{"abc", "abc\x27\x01\x4d\x02"},
		{"Wikipedia", "Wikipedia\x98\x03\xe6\x11"},
		{"\x00\xff", "\x00\xff\x00\x01\x01\x01"},
	} {
		if got := seal.Stamp(x.s); got != x.want {
			t.Errorf("%d %q", i, got)
		}
		if got, e := seal.Open(x.want); e != api.OK || got != x.s {
			t.Errorf("%d %q %d", i, got, e)
		}
	}
}

func TestStamp(t *testing.T) {
	dice := rand.New(rand.NewPCG(7, 3))
	for _, n := range lengths {
		s := someText(dice, n)
		if got := seal.Stamp(s); got != s+lowFirst(adler32.Checksum([]byte(s))) {
			t.Errorf("%d %d", n, len(got))
		}
	}
}

func TestOpenOfTooFew(t *testing.T) {
	for _, s := range []string{
		"", "\x00", "\x01", "\x01\x00", "\x01\x00\x00", "\x00\x00\x00", "abc", "\xff\xff\xff",
	} {
		if !isNone(s) {
			t.Errorf("%q", s)
		}
	}
}

func TestOpenOfNoStamp(t *testing.T) {
	s := seal.Stamp("Wikipedia")
	for i, x := range []string{
		s[1:],
		s[:len(s)-1],
		s[:len(s)-4],
		s + "\x00",
		"\x00" + s,
		s[9:] + s[:9],
		"Wikipedia" + highFirst(seal.Of("Wikipedia")),
		"Wikipedia" + lowFirst(seal.Of("Wikipedia")+1),
		"Wikipedia" + lowFirst(seal.Of("wikipedia")),
		"\x00\x00\x00\x00",
		"\xff\xff\xff\xff",
		"\x00\x00\x00\x01",
		"a\x62\x00\x62\x01",
		strings.Repeat("\x00", 100),
	} {
		if !isNone(x) {
			t.Errorf("%d %q", i, x)
		}
	}
}

// The sum of a stamp is that one alone, though greater halves count the same.
func TestOpenOfGreatHalves(t *testing.T) {
	for _, x := range []struct {
		s   string
		sum uint32
	}{
		{"", base + 1},
		{"", base<<16 | 1},
		{"", base<<16 | base + 1},
		{"\x00", (base+1)<<16 | 1},
		{"\x05", 6<<16 | base + 6},
	} {
		if small(x.sum) != seal.Of(x.s) {
			t.Fatalf("%q %#x", x.s, x.sum)
		}
		if !isNone(x.s + lowFirst(x.sum)) {
			t.Errorf("%q %#x", x.s, x.sum)
		}
	}
}

// P3.4

func TestStampedIsOpened(t *testing.T) {
	dice := rand.New(rand.NewPCG(8, 3))
	for n := range 600 {
		s := someText(dice, n)
		for range 3 {
			once := s
			s = seal.Stamp(s)
			if got, e := seal.Open(s); e != api.OK || got != once {
				t.Fatalf("%d %d %q", n, e, got)
			}
		}
	}
	for _, n := range lengths {
		s := strings.Repeat("\xff", n)
		if got, e := seal.Open(seal.Stamp(s)); e != api.OK || got != s {
			t.Error(n, e, len(got))
		}
	}
}

// Whichever byte of a stamped text is turned, of the sum too, it is none.
func TestTurnedIsNotOpened(t *testing.T) {
	dice := rand.New(rand.NewPCG(9, 3))
	for _, n := range []int{0, 1, 2, 9, 200} {
		text := []byte(seal.Stamp(someText(dice, n)))
		for at, was := range text {
			for turn := 1; turn < 256; turn++ {
				text[at] = was ^ byte(turn)
				if !isNone(string(text)) {
					t.Fatal(n, at, turn)
				}
			}
			text[at] = was
		}
	}
}

// FuzzOpen: what is opened is stamped just so again, and all else is none.
func FuzzOpen(f *testing.F) {
	f.Add("Wikipedia\x98\x03\xe6\x11")
	f.Add("\x01\x00\x00\x00")
	f.Add("abc")
	f.Fuzz(func(t *testing.T, s string) {
		text, e := seal.Open(s)
		if e == api.OK && seal.Stamp(text) != s || e != api.OK && !isNone(s) {
			t.Fatalf("%q %d", text, e)
		}
		n := len(s) - 4
		if stamped := n >= 0 && s[n:] == lowFirst(adler32.Checksum([]byte(s[:n]))); stamped != (e == api.OK) {
			t.Fatal(stamped, e)
		}
		if back, e := seal.Open(seal.Stamp(s)); e != api.OK || back != s {
			t.Fatalf("%q %d", back, e)
		}
	})
}
