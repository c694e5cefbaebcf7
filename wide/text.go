package wide

import (
	"math/bits"
	"strconv"
	"strings"

	"retrofit/api"
)

// The most digits whose number is a word for sure, and the number one beyond.
const (
	wordDigits = 19
	wordTens   = 10_000_000_000_000_000_000
)

// Text: the digits of a number.
func Text(x api.Int) string {
	if !Form(x) {
		return ""
	}
	text := digits(sizeOf(x))
	if x.Neg {
		return "-" + text
	}
	return text
}

// digits asks that the size fits: it is then below 2^64 times wordTens, so
// that the upper digits are those of one word.
func digits(a size) string {
	upper, lower := bits.Div64(a.hi, a.lo, wordTens)
	text := strconv.FormatUint(lower, 10)
	if upper == 0 {
		return text
	}
	zeros := strings.Repeat("0", wordDigits-len(text))
	return strconv.FormatUint(upper, 10) + zeros + text
}

// Parse: the number of a text; ErrForm, ErrRange.
func Parse(s string) (api.Int, api.Errno) {
	tail, neg := strings.CutPrefix(s, "-")
	// The whole text is looked at ahead, since ErrForm comes ahead of ErrRange.
	if !decimal(tail) || neg && tail == "0" {
		return api.Int{}, api.ErrForm
	}
	a := size{}
	for i := range len(tail) {
		var ok bool
		if a, ok = appendDigit(a, tail[i]); !ok {
			return api.Int{}, api.ErrRange
		}
	}
	return number(neg, a), api.OK
}

// appendDigit answers false if the longer number's size doesn't fit.
func appendDigit(a size, digit byte) (size, bool) {
	tens, ok := times(a, size{0, 10})
	// Asked ahead of the sum, which could pass 2^128 otherwise.
	if !ok || !tens.fits() {
		return size{}, false
	}
	sum := plus(tens, size{0, uint64(digit - '0')})
	return sum, sum.fits()
}

// decimal: whether a text is digits, without zeros ahead.
func decimal(s string) bool {
	if s == "" || s[0] == '0' && s != "0" {
		return false
	}
	for i := range len(s) {
		if s[i] < '0' || s[i] > '9' {
			return false
		}
	}
	return true
}
