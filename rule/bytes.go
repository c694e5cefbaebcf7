package rule

import (
	"retrofit/api"
	"retrofit/expr"
	"retrofit/octet"
)

// mark is the first one of a program's bytes.
const mark = 77

// Bytes of a version, and of all other numbers.
const (
	versionWidth = 4
	smallWidth   = 1
)

// Encode: its bytes; ErrArg, ErrForm, ErrFull.
func Encode(p Program) (string, api.Errno) {
	if e := Check(p); e != api.OK {
		return "", e
	}
	// Nothing can fail any more: all of a program that is well formed has room.
	w := &octet.Writer{}
	putSmall(w, mark)
	w.Num(versionWidth, uint64(p.From))
	w.Num(versionWidth, uint64(p.To))
	putSmall(w, len(p.Rules))
	for _, r := range p.Rules {
		putRule(w, r)
	}
	return w.String(), api.OK
}

// Decode: the way back; ErrForm.
func Decode(bytes string) (Program, api.Errno) {
	r := octet.Read(bytes)
	first := takeSmall(r)
	p := Program{From: int(r.Num(versionWidth)), To: int(r.Num(versionWidth))}
	p.Rules = make([]Rule, takeSmall(r))
	for i := range p.Rules {
		p.Rules[i] = takeRule(r)
	}
	if !r.Done() || first != mark || Check(p) != api.OK {
		return Program{}, api.ErrForm
	}
	return p, api.OK
}

func putRule(w *octet.Writer, r Rule) {
	putSmall(w, r.New)
	putSmall(w, r.Old)
	putSmall(w, len(r.Exprs))
	for _, code := range r.Exprs {
		bytes, _ := expr.Encode(code)
		w.Part(bytes)
	}
}

// takeRule leaves a formula without instructions where a part is no formula's
// bytes, or the bytes end too early: Check refuses that.
func takeRule(r *octet.Reader) Rule {
	one := Rule{New: takeSmall(r), Old: takeSmall(r)}
	one.Exprs = make([][]expr.Ins, takeSmall(r))
	for i := range one.Exprs {
		one.Exprs[i], _ = expr.Decode(r.Part(r.Left()))
	}
	return one
}

func putSmall(w *octet.Writer, n int) { w.Num(smallWidth, uint64(n)) }

func takeSmall(r *octet.Reader) int { return int(r.Num(smallWidth)) }
