package octet_test

import (
	"encoding/binary"
	"math/bits"
	"strings"
	"testing"

	"retrofit/octet"
)

// widths are all that there are; noWidths are some of those there aren't.
var (
	widths   = []int{1, 2, 4, 8}
	noWidths = []int{0, 3, 5, 6, 7, 9, 16, 64, 256, 257, -1, -2, -8, 1<<32 + 1, 1<<63 - 1, -1 << 63}
)

// numbers are those at which the count of bytes changes, and some others.
func numbers() []uint64 {
	list := []uint64{0, 1, 2, 127, 128, 258, 0x0102030405060708, 0xf1e2d3c4b5a69788}
	for n := 8; n <= 64; n += 8 {
		top := uint64(1)<<n - 1
		list = append(list, top-1, top, top+1, 1<<(n-1))
	}
	return list
}

// P2.1

func TestZeroWriter(t *testing.T) {
	w := octet.Writer{}
	if got := w.String(); got != "" {
		t.Errorf("%q", got)
	}
}

func TestWriteNumByHand(t *testing.T) {
	for i, x := range []struct {
		wide int
		n    uint64
		want string
	}{
		{1, 0, "\x00"},
		{1, 255, "\xff"},
		{2, 258, "\x02\x01"},
		{2, 0, "\x00\x00"},
		{2, 65535, "\xff\xff"},
		{4, 1, "\x01\x00\x00\x00"},
		{4, 0x89abcdef, "\xef\xcd\xab\x89"},
		{8, 0x0102030405060708, "\x08\x07\x06\x05\x04\x03\x02\x01"},
		{8, 1 << 63, "\x00\x00\x00\x00\x00\x00\x00\x80"},
	} {
		w := &octet.Writer{}
		if ok := w.Num(x.wide, x.n); !ok || w.String() != x.want {
			t.Errorf("%d %v %q", i, ok, w.String())
		}
	}
}

func TestWriteNum(t *testing.T) {
	for _, wide := range widths {
		for _, n := range numbers() {
			w := &octet.Writer{}
			w.Raw("ahead")
			ok := w.Num(wide, n)
			fits := bits.Len64(n) <= 8*wide
			want := "ahead"
			if fits {
				want += string(binary.LittleEndian.AppendUint64(nil, n)[:wide])
			}
			if ok != fits || w.String() != want {
				t.Errorf("%d %x %v %q", wide, n, ok, w.String())
			}
		}
	}
}

func TestWriteNumOfNoWidth(t *testing.T) {
	w := &octet.Writer{}
	w.Raw("ahead")
	for _, wide := range noWidths {
		for _, n := range numbers() {
			if w.Num(wide, n) {
				t.Error(wide, n)
			}
		}
	}
	if w.String() != "ahead" {
		t.Errorf("%q", w.String())
	}
}

func TestWriteName(t *testing.T) {
	for n := range 256 {
		w := &octet.Writer{}
		s := strings.Repeat("n", n)
		if ok := w.Name(s); !ok || w.String() != string([]byte{byte(n)})+s {
			t.Errorf("%d %v %q", n, ok, w.String())
		}
	}
	for _, n := range []int{256, 257, 511, 512, 65535, 65536, 1 << 20} {
		w := &octet.Writer{}
		w.Raw("ahead")
		if ok := w.Name(strings.Repeat("n", n)); ok || w.String() != "ahead" {
			t.Error(n, ok, len(w.String()))
		}
	}
}

func TestWritePart(t *testing.T) {
	for _, x := range []struct {
		n    int
		head string
	}{
		{0, "\x00\x00\x00\x00"},
		{1, "\x01\x00\x00\x00"},
		{255, "\xff\x00\x00\x00"},
		{256, "\x00\x01\x00\x00"},
		{65536, "\x00\x00\x01\x00"},
		{0x01020304, "\x04\x03\x02\x01"},
	} {
		w := &octet.Writer{}
		s := strings.Repeat("\xfe", x.n)
		if ok := w.Part(s); !ok || w.String() != x.head+s {
			t.Error(x.n, ok, len(w.String()))
		}
	}
}

func TestWriteRaw(t *testing.T) {
	w := &octet.Writer{}
	for i, x := range []struct{ s, want string }{
		{"", ""},
		{"ab", "ab"},
		{"", "ab"},
		{"\x00\xff\x80", "ab\x00\xff\x80"},
		{"\u00e9", "ab\x00\xff\x80\xc3\xa9"},
	} {
		if ok := w.Raw(x.s); !ok || w.String() != x.want {
			t.Errorf("%d %v %q", i, ok, w.String())
		}
	}
}

func TestWriteAllInOrder(t *testing.T) {
	w := &octet.Writer{}
	ok := w.Num(1, 7) && w.Name("name") && w.Part("part") && w.Raw("raw") && w.Num(2, 258) && w.Name("") && w.Part("")
	want := "\x07" + "\x04name" + "\x04\x00\x00\x00part" + "raw" + "\x02\x01" + "\x00" + "\x00\x00\x00\x00"
	if !ok || w.String() != want {
		t.Errorf("%v %q", ok, w.String())
	}
}

func TestStringStaysAsItWas(t *testing.T) {
	w := &octet.Writer{}
	w.Raw("one")
	first := w.String()
	w.Raw("two")
	if again := w.String(); first != "one" || again != "onetwo" || w.String() != again {
		t.Errorf("%q %q", first, again)
	}
}

// Copies of a Writer go on by themselves, however much room the first one had.
func TestCopiedWriter(t *testing.T) {
	for n := range 40 {
		w := octet.Writer{}
		for range n {
			w.Raw("x")
		}
		x, y := w, w
		w.Raw("w")
		x.Raw("x1")
		y.Name("y")
		x.Raw("x2")
		head := strings.Repeat("x", n)
		if w.String() != head+"w" || x.String() != head+"x1x2" || y.String() != head+"\x01y" {
			t.Errorf("%d %q %q %q", n, w.String(), x.String(), y.String())
		}
	}
}

func TestManyWritten(t *testing.T) {
	w := &octet.Writer{}
	for i := range 1 << 20 {
		w.Num(1, uint64(i&255))
	}
	s := w.String()
	if len(s) != 1<<20 {
		t.Fatal(len(s))
	}
	for i := range len(s) {
		if s[i] != byte(i) {
			t.Fatal(i, s[i])
		}
	}
}

func TestNilWriter(t *testing.T) {
	var w *octet.Writer
	for _, wide := range append(noWidths, widths...) {
		if w.Num(wide, 0) || w.Num(wide, 1<<63) {
			t.Error(wide)
		}
	}
	if w.Name("") || w.Name("a") || w.Name(strings.Repeat("a", 256)) {
		t.Error("name")
	}
	if w.Part("") || w.Part("a") || w.Raw("") || w.Raw("a") {
		t.Error("part, raw")
	}
	if w.String() != "" {
		t.Errorf("%q", w.String())
	}
}
