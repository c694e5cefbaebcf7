package octet

// Reader is bytes that are read.
type Reader struct {
	rest string
	bad  bool
}

// Read: ahead of bytes.
func Read(s string) *Reader { return &Reader{rest: s} }

// Bad: whether something couldn't be answered.
func (r *Reader) Bad() bool { return r == nil || r.bad }

// Left: how many bytes are left.
func (r *Reader) Left() int {
	if r.Bad() {
		return 0
	}
	return len(r.rest)
}

// Done: whether all was read, and right.
func (r *Reader) Done() bool { return !r.Bad() && r.rest == "" }

// Num: the next number.
func (r *Reader) Num(wide int) uint64 {
	if !isWidth(wide) {
		r.spoil()
		return 0
	}
	return number(r.Raw(wide))
}

// Name: the next short text.
func (r *Reader) Name() string { return r.Raw(int(r.Num(nameWidth))) }

// Part: the next part.
func (r *Reader) Part(most int) string {
	size := r.Num(partWidth)
	if most < 0 || size > uint64(most) {
		r.spoil()
		return ""
	}
	return r.Raw(int(size))
}

// Raw: the next bytes.
func (r *Reader) Raw(n int) string {
	if n < 0 || n > r.Left() {
		r.spoil()
	}
	if r.Bad() {
		return ""
	}
	text := r.rest[:n]
	r.rest = r.rest[n:]
	return text
}

func (r *Reader) spoil() {
	if r != nil {
		r.bad = true
	}
}

// number is that of bytes, the lowest first; 0, if there are none.
func number(s string) uint64 {
	n := uint64(0)
	for i := range len(s) {
		n |= uint64(s[i]) << (8 * i)
	}
	return n
}
