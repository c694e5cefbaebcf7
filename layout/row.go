package layout

import (
	"strings"

	"retrofit/api"
	"retrofit/field"
)

// Fit: whether a value fits; ErrArg, ErrFull, ErrForm, ErrRange.
func Fit(list []api.Field, val []api.Int) api.Errno {
	plan, e := Of(list)
	if e != api.OK {
		return e
	}
	slots := slotsOf(list, plan)
	if len(val) != len(slots) {
		return api.ErrForm
	}
	for i, x := range slots {
		if !field.Fits(x.kind, val[i]) {
			return api.ErrRange
		}
	}
	return api.OK
}

// Pack: the row of a value; ErrArg, ErrFull, ErrForm, ErrRange.
func Pack(list []api.Field, val []api.Int) (string, api.Errno) {
	if e := Fit(list, val); e != api.OK {
		return "", e
	}
	// Nothing can fail any more: the fields can be, and the value fits.
	plan, _ := Of(list)
	row := make([]byte, plan.Size)
	for i, x := range slotsOf(list, plan) {
		s, _ := field.Put(x.kind, val[i])
		copy(row[x.at:], s)
	}
	return string(row), api.OK
}

// Unpack: the way back; ErrArg, ErrFull, ErrForm.
func Unpack(list []api.Field, s string) ([]api.Int, api.Errno) {
	plan, e := Of(list)
	if e != api.OK {
		return nil, e
	}
	if len(s) != plan.Size {
		return nil, api.ErrForm
	}
	slots := slotsOf(list, plan)
	val := make([]api.Int, len(slots))
	end := 0
	for i, x := range slots {
		val[i], e = field.Get(x.kind, s[x.at:x.end()])
		if e != api.OK || !isBlank(s[end:x.at]) {
			return nil, api.ErrForm
		}
		end = x.end()
	}
	if !isBlank(s[end:]) {
		return nil, api.ErrForm
	}
	return val, api.OK
}

// slot is where an element stands.
type slot struct {
	kind api.Kind
	at   int
}

func (x slot) end() int { return x.at + field.Size(x.kind) }

// slotsOf are all elements' slots, in order; it asks that the plan is the
// list's own.
func slotsOf(list []api.Field, plan Plan) []slot {
	slots := []slot{}
	for i, f := range list {
		for n := range f.Count {
			slots = append(slots, slot{f.Kind, plan.At[i] + n*field.Size(f.Kind)})
		}
	}
	return slots
}

// isBlank: whether bytes that are no element's are as they must be.
func isBlank(s string) bool { return strings.Trim(s, "\x00") == "" }
