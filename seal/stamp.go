package seal

import (
	"retrofit/api"
	"retrofit/octet"
)

// sumWidth is of how many bytes a sum is.
const sumWidth = 4

// Stamp: bytes with their sum.
func Stamp(s string) string {
	w := &octet.Writer{}
	w.Raw(s)
	w.Num(sumWidth, uint64(Of(s)))
	return w.String()
}

// Open: the way back; ErrForm.
func Open(s string) (string, api.Errno) {
	r := octet.Read(s)
	// Of too few bytes this is below 0, and the Reader bad.
	text := r.Raw(r.Left() - sumWidth)
	sum := r.Num(sumWidth)
	if !r.Done() || sum != uint64(Of(text)) {
		return "", api.ErrForm
	}
	return text, api.OK
}
