package octet

// Writer is bytes that are written: the first ones of a store, up to its size.
type Writer struct {
	store *store
	size  int
}

// store is held by a Writer and by its copies. Only who is at its end appends
// to it, so that no copy writes over what another one has written.
type store struct {
	bytes []byte
}

// Num: a number; false: it can't be.
func (w *Writer) Num(wide int, n uint64) bool {
	if !isWidth(wide) || n>>(8*wide) != 0 {
		return false
	}
	return w.Raw(lowFirst(wide, n))
}

// Raw: bytes as they are.
func (w *Writer) Raw(s string) bool {
	if w == nil {
		return false
	}
	if w.store == nil || w.size != len(w.store.bytes) {
		w.store = &store{bytes: []byte(w.String())}
	}
	w.store.bytes = append(w.store.bytes, s...)
	w.size = len(w.store.bytes)
	return true
}

// Name: a short text; false: it is too long.
func (w *Writer) Name(s string) bool {
	// A length that is too great is no number of one byte.
	return w.Num(nameWidth, uint64(len(s))) && w.Raw(s)
}

// Part: a part.
func (w *Writer) Part(s string) bool {
	return w.Num(partWidth, uint64(len(s))) && w.Raw(s)
}

// String: all bytes.
func (w *Writer) String() string {
	if w == nil || w.store == nil {
		return ""
	}
	return string(w.store.bytes[:w.size])
}

func lowFirst(wide int, n uint64) string {
	bytes := make([]byte, wide)
	for i := range bytes {
		bytes[i] = byte(n >> (8 * i))
	}
	return string(bytes)
}
