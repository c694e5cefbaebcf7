package expr

import (
	"retrofit/api"
	"retrofit/octet"
)

// Bytes of half a number's size, and of all other numbers.
const (
	wordWidth  = 8
	smallWidth = 1
)

// Encode: its bytes; ErrFull, ErrForm, ErrArg.
func Encode(code []Ins) (string, api.Errno) {
	rows, e := rowsOf(code)
	if e != api.OK {
		return "", e
	}
	w := &octet.Writer{}
	putSmall(w, len(code))
	for at, r := range rows {
		if !r.names.only(code[at]) {
			return "", api.ErrArg
		}
		putIns(w, r.names, code[at])
	}
	return w.String(), api.OK
}

// Decode: the way back; ErrForm.
func Decode(bytes string) ([]Ins, api.Errno) {
	r := octet.Read(bytes)
	code := make([]Ins, takeSmall(r))
	for at := range code {
		i, is := takeIns(r)
		if !is {
			return nil, api.ErrForm
		}
		code[at] = i
	}
	if !r.Done() || Check(code) != api.OK {
		return nil, api.ErrForm
	}
	return code, api.OK
}

// only: whether all is 0 that the row doesn't name.
func (names operands) only(i Ins) bool {
	return (names.a || i.A == 0) && (names.b || i.B == 0) && (names.k || i.K == api.Int{})
}

// putIns asks that the instruction is of a formula that is well formed, so
// that all of it has room.
func putIns(w *octet.Writer, names operands, i Ins) {
	putSmall(w, i.Op)
	if names.a {
		putSmall(w, i.A)
	}
	if names.b {
		putSmall(w, i.B)
	}
	if names.k {
		putNumber(w, i.K)
	}
}

// takeIns answers false if a sign is none. All else that is wrong others tell:
// the Reader, if the bytes end too early, and Check, if there is no such
// instruction.
func takeIns(r *octet.Reader) (Ins, bool) {
	i, is := Ins{Op: takeSmall(r)}, true
	names := rowOf(i.Op).names
	if names.a {
		i.A = takeSmall(r)
	}
	if names.b {
		i.B = takeSmall(r)
	}
	if names.k {
		i.K, is = takeNumber(r)
	}
	return i, is
}

func putNumber(w *octet.Writer, x api.Int) {
	sign := 0
	if x.Neg {
		sign = 1
	}
	putSmall(w, sign)
	w.Num(wordWidth, x.Lo)
	w.Num(wordWidth, x.Hi)
}

// takeNumber answers false if the sign is none.
func takeNumber(r *octet.Reader) (api.Int, bool) {
	sign := takeSmall(r)
	if sign > 1 {
		return api.Int{}, false
	}
	x := api.Int{Neg: sign == 1}
	x.Lo = r.Num(wordWidth)
	x.Hi = r.Num(wordWidth)
	return x, true
}

func putSmall(w *octet.Writer, n int) { w.Num(smallWidth, uint64(n)) }

func takeSmall(r *octet.Reader) int { return int(r.Num(smallWidth)) }
