package field

import (
	"retrofit/api"
	"retrofit/octet"
	"retrofit/wide"
)

// Put: its bytes; ErrArg, ErrRange.
func Put(k api.Kind, x api.Int) (string, api.Errno) {
	if !isKind(k) {
		return "", api.ErrArg
	}
	if !Fits(k, x) {
		return "", api.ErrRange
	}
	w := &octet.Writer{}
	w.Num(Size(k), wordOf(k, x))
	return w.String(), api.OK
}

// Get: the way back; ErrArg, ErrForm.
func Get(k api.Kind, s string) (api.Int, api.Errno) {
	if !isKind(k) {
		return api.Int{}, api.ErrArg
	}
	r := octet.Read(s)
	x := numberOf(k, r.Num(Size(k)))
	if !r.Done() || !Fits(k, x) {
		return api.Int{}, api.ErrForm
	}
	return x, api.OK
}

// wordOf asks that the number fits, so that its size is one word.
func wordOf(k api.Kind, x api.Int) uint64 {
	if x.Neg {
		return opposite(k, x.Lo)
	}
	return x.Lo
}

// numberOf asks that the word has no more bytes than the kind. What it
// answers may not fit: of a bool most words are too great, and taken for
// numbers below 0, of which it has none.
func numberOf(k api.Kind, word uint64) api.Int {
	if word > shapeOf(k).above {
		return wide.Neg(wide.OfWord(opposite(k, word)))
	}
	return wide.OfWord(word)
}

// opposite is what makes 2^b of a word, if b is how many bits the kind has.
func opposite(k api.Kind, word uint64) uint64 {
	unused := 64 - 8*Size(k)
	return -word << unused >> unused
}
