package octet_test

import (
	"encoding/binary"
	"math/rand/v2"
	"strings"
	"testing"

	"retrofit/octet"
)

const (
	maxInt = 1<<63 - 1
	minInt = -1 << 63
)

// isBad asks all that a bad Reader answers, and whether it takes nothing.
func isBad(r *octet.Reader) bool {
	for range 2 {
		if !r.Bad() || r.Done() || r.Left() != 0 {
			return false
		}
		for _, wide := range append(noWidths, widths...) {
			if r.Num(wide) != 0 {
				return false
			}
		}
		for _, n := range []int{0, 1, 4, maxInt, -1, minInt} {
			if r.Part(n) != "" || r.Raw(n) != "" || r.Name() != "" {
				return false
			}
		}
	}
	return true
}

// P2.2

func TestReadNothing(t *testing.T) {
	r := octet.Read("")
	if r == nil || r.Bad() || !r.Done() || r.Left() != 0 {
		t.Fatal(r)
	}
	if got := r.Raw(0); got != "" || r.Bad() || !r.Done() {
		t.Error(got)
	}
}

func TestReadNum(t *testing.T) {
	s := "\x01\x82\x03\x84\x05\x86\x07\x88tail"
	for _, x := range []struct {
		wide int
		want uint64
	}{
		{1, 0x01},
		{2, 0x8201},
		{4, 0x84038201},
		{8, 0x8807860584038201},
	} {
		r := octet.Read(s)
		if got := r.Num(x.wide); got != x.want || r.Bad() || r.Done() || r.Left() != len(s)-x.wide {
			t.Errorf("%d %x %d", x.wide, got, r.Left())
		}
		if got := r.Raw(r.Left()); got != s[x.wide:] || !r.Done() {
			t.Errorf("%d %q", x.wide, got)
		}
	}
}

func TestReadNumOfNoWidth(t *testing.T) {
	for _, wide := range noWidths {
		r := octet.Read(strings.Repeat("x", 300))
		if r.Num(wide) != 0 || !isBad(r) {
			t.Error(wide)
		}
		r = octet.Read("")
		if r.Num(wide) != 0 || !isBad(r) {
			t.Error(wide)
		}
	}
}

func TestReadNumOfTooFew(t *testing.T) {
	for _, wide := range widths {
		for n := range wide {
			r := octet.Read(strings.Repeat("\xff", n))
			if r.Num(wide) != 0 || !isBad(r) {
				t.Error(wide, n)
			}
		}
		r := octet.Read(strings.Repeat("\xff", wide))
		if r.Num(wide) != 1<<(8*wide)-1 || !r.Done() {
			t.Error(wide)
		}
	}
}

func TestReadName(t *testing.T) {
	for n := range 256 {
		text := strings.Repeat("n", n)
		r := octet.Read(string([]byte{byte(n)}) + text + "tail")
		if got := r.Name(); got != text || r.Bad() || r.Left() != 4 {
			t.Error(n, got, r.Left())
		}
		if n == 0 {
			continue
		}
		r = octet.Read(string([]byte{byte(n)}) + text[1:])
		if r.Name() != "" || !isBad(r) {
			t.Error(n)
		}
	}
	if r := octet.Read(""); r.Name() != "" || !isBad(r) {
		t.Error("no length")
	}
}

func TestReadPart(t *testing.T) {
	for i, x := range []struct {
		s    string
		most int
		want string
		left int
	}{
		{"\x00\x00\x00\x00", 0, "", 0},
		{"\x00\x00\x00\x00tail", 0, "", 4},
		{"\x04\x00\x00\x00part", 4, "part", 0},
		{"\x04\x00\x00\x00part", 5, "part", 0},
		{"\x04\x00\x00\x00part", maxInt, "part", 0},
		{"\x04\x00\x00\x00parttail", 4, "part", 4},
		{"\x00\x01\x00\x00" + strings.Repeat("x", 257), 256, strings.Repeat("x", 256), 1},
	} {
		r := octet.Read(x.s)
		if got := r.Part(x.most); got != x.want || r.Bad() || r.Left() != x.left || r.Done() != (x.left == 0) {
			t.Errorf("%d %q %d", i, got, r.Left())
		}
	}
}

func TestReadPartThatIsNone(t *testing.T) {
	for i, x := range []struct {
		s    string
		most int
	}{
		// Longer than most.
		{"\x04\x00\x00\x00part", 3},
		{"\x04\x00\x00\x00part", 0},
		{"\x01\x00\x00\x00p", 0},
		{"\x04\x00\x00\x00part", -1},
		{"\x00\x00\x00\x00", -1},
		{"\x00\x00\x00\x00", minInt},
		// Longer than what is left.
		{"\x04\x00\x00\x00par", 4},
		{"\x04\x00\x00\x00", 4},
		{"\x05\x00\x00\x00part", maxInt},
		{"\xff\xff\xff\xffpart", maxInt},
		{"\xff\xff\xff\x7fpart", maxInt},
		{"\x00\x00\x00\x80part", maxInt},
		{"\xff\xff\xff\xffpart", 4},
		{"\x04\x00\x00\x01part", 4},
		// No length.
		{"", maxInt},
		{"", 0},
		{"\x00", 0},
		{"\x00\x00\x00", maxInt},
		{"\x00\x00\x00", -1},
	} {
		r := octet.Read(x.s)
		if got := r.Part(x.most); got != "" || !isBad(r) {
			t.Errorf("%d %q", i, got)
		}
	}
}

func TestReadRaw(t *testing.T) {
	r := octet.Read("abc\x00\xffd")
	for i, x := range []struct {
		n    int
		want string
		left int
	}{
		{0, "", 6},
		{1, "a", 5},
		{2, "bc", 3},
		{0, "", 3},
		{3, "\x00\xffd", 0},
		{0, "", 0},
	} {
		if got := r.Raw(x.n); got != x.want || r.Left() != x.left || r.Bad() || r.Done() != (x.left == 0) {
			t.Errorf("%d %q %d", i, got, r.Left())
		}
	}
}

func TestReadRawThatIsNone(t *testing.T) {
	for _, n := range []int{-1, -2, minInt, 3, 4, maxInt} {
		r := octet.Read("ab")
		if got := r.Raw(n); got != "" || !isBad(r) {
			t.Errorf("%d %q", n, got)
		}
	}
	if r := octet.Read(""); r.Raw(1) != "" || !isBad(r) {
		t.Error("behind the end")
	}
}

func TestBadFromTheMiddleOn(t *testing.T) {
	r := octet.Read("\x02abtail")
	if r.Name() != "ab" || r.Left() != 4 {
		t.Fatal(r.Left())
	}
	// Whatever is left would do for the calls behind the bad one.
	if r.Raw(5) != "" || !isBad(r) {
		t.Error("not bad")
	}
}

func TestCopiedReader(t *testing.T) {
	r := octet.Read("abcd")
	r.Raw(1)
	other := *r
	r.Raw(-1)
	if !r.Bad() || other.Bad() || other.Left() != 3 || other.Raw(3) != "bcd" {
		t.Error("a copy hangs on the first one")
	}
}

func TestNilReader(t *testing.T) {
	var r *octet.Reader
	if !isBad(r) {
		t.Error("not bad")
	}
}

// P2.3

// deed is something that is written, and then asked of a Reader.
type deed struct {
	what int
	wide int
	n    uint64
	text string
}

func someDeed(dice *rand.Rand) deed {
	x := deed{what: dice.IntN(4), wide: widths[dice.IntN(4)]}
	x.n = dice.Uint64() >> (64 - 8*x.wide)
	text := make([]byte, dice.IntN(300))
	for i := range text {
		text[i] = byte(dice.Uint32())
	}
	if x.text = string(text); x.what == 1 && len(text) > 255 {
		x.text = x.text[:255]
	}
	return x
}

func (x deed) write(w *octet.Writer) bool {
	switch x.what {
	case 0:
		return w.Num(x.wide, x.n)
	case 1:
		return w.Name(x.text)
	case 2:
		return w.Part(x.text)
	}
	return w.Raw(x.text)
}

func (x deed) isRead(r *octet.Reader) bool {
	switch x.what {
	case 0:
		return r.Num(x.wide) == x.n
	case 1:
		return r.Name() == x.text
	case 2:
		return r.Part(len(x.text)) == x.text
	}
	return r.Raw(len(x.text)) == x.text
}

func TestReadAsWritten(t *testing.T) {
	dice := rand.New(rand.NewPCG(3, 4))
	for range 500 {
		w := &octet.Writer{}
		list := make([]deed, dice.IntN(20))
		for i := range list {
			list[i] = someDeed(dice)
			if !list[i].write(w) {
				t.Fatal(i, list[i])
			}
		}
		r := octet.Read(w.String())
		for i, x := range list {
			if !x.isRead(r) {
				t.Fatal(i, x)
			}
		}
		if !r.Done() || r.Bad() || r.Left() != 0 {
			t.Fatal(r.Left(), list)
		}
	}
}

func TestNumbersReadAsWritten(t *testing.T) {
	for _, wide := range widths {
		for _, n := range numbers() {
			w := &octet.Writer{}
			if !w.Num(wide, n) {
				continue
			}
			r := octet.Read(w.String())
			if r.Num(wide) != n || !r.Done() {
				t.Error(wide, n)
			}
		}
	}
}

// What is refused leaves no trace between what is read.
func TestRefusedIsNotRead(t *testing.T) {
	w := &octet.Writer{}
	w.Num(1, 1)
	w.Num(1, 256)
	w.Num(3, 0)
	w.Name(strings.Repeat("x", 256))
	w.Num(1, 2)
	r := octet.Read(w.String())
	if r.Num(1) != 1 || r.Num(1) != 2 || !r.Done() {
		t.Errorf("%q", w.String())
	}
}

// FuzzReader asks calls of any bytes: each either takes what it answers, or
// makes the Reader bad.
func FuzzReader(f *testing.F) {
	f.Add("\x02\x01\x00\x00\x00\x04abcd", []byte{0, 1, 2, 3, 4})
	f.Fuzz(func(t *testing.T, s string, calls []byte) {
		r := octet.Read(s)
		left := len(s)
		for _, c := range calls {
			wide, n := int(c>>3)&15, int(c>>3)-2
			taken := 0
			switch c & 3 {
			case 0:
				got := r.Num(wide)
				taken = wide
				if r.Bad() != !canNum(wide, left) || !r.Bad() && got != lowFirst(s[len(s)-left:][:wide]) {
					t.Fatal(wide, left, got)
				}
			case 1:
				taken = 1 + len(r.Name())
			case 2:
				taken = 4 + len(r.Part(n))
			case 3:
				got := r.Raw(n)
				taken = n
				if r.Bad() != (n < 0 || n > left) || !r.Bad() && got != s[len(s)-left:][:n] {
					t.Fatal(n, left, got)
				}
			}
			if r.Bad() {
				if !isBad(r) {
					t.Fatal("bad in part")
				}
				return
			}
			if left -= taken; r.Left() != left || r.Done() != (left == 0) {
				t.Fatal(r.Left(), left)
			}
		}
	})
}

func canNum(wide, left int) bool {
	return (wide == 1 || wide == 2 || wide == 4 || wide == 8) && wide <= left
}

func lowFirst(s string) uint64 {
	room := [8]byte{}
	copy(room[:], s)
	return binary.LittleEndian.Uint64(room[:])
}
