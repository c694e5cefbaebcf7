package scode

import (
	"retrofit/api"
	"retrofit/layout"
	"retrofit/octet"
	"retrofit/schema"
)

// EncodeParts: parts' bytes; ErrArg, ErrForm, ErrFull, ErrNone, ErrRange.
func EncodeParts(s api.Schema, list []api.Part) (string, api.Errno) {
	if e := schema.Check(s); e != api.OK {
		return "", e
	}
	if e := schema.CheckParts(s, list); e != api.OK {
		return "", e
	}
	if !rise(list) {
		return "", api.ErrForm
	}
	w := &octet.Writer{}
	putSmall(w, len(list))
	for _, p := range list {
		putPart(w, s, p)
	}
	return w.String(), api.OK
}

// DecodeParts: the way back; ErrArg, ErrForm, ErrFull.
func DecodeParts(s api.Schema, bytes string) ([]api.Part, api.Errno) {
	if e := schema.Check(s); e != api.OK {
		return nil, e
	}
	r := octet.Read(bytes)
	list := make([]api.Part, takeSmall(r))
	for i := range list {
		p, is := takePart(r, s)
		if !is {
			return nil, api.ErrForm
		}
		list[i] = p
	}
	if !r.Done() || !rise(list) {
		return nil, api.ErrForm
	}
	return list, api.OK
}

// putPart asks that the part is right by the schema, so that nothing fails.
func putPart(w *octet.Writer, s api.Schema, p api.Part) {
	c, _ := schema.Find(s, p.Comp)
	row, _ := layout.Pack(c.Fields, p.Val)
	putSmall(w, p.Comp)
	w.Raw(row)
}

// takePart answers false if the schema has no such part; it asks that the
// schema can be, so that its fields can be laid out.
func takePart(r *octet.Reader, s api.Schema) (api.Part, bool) {
	c, is := schema.Find(s, takeSmall(r))
	if !is {
		return api.Part{}, false
	}
	plan, _ := layout.Of(c.Fields)
	val, e := layout.Unpack(c.Fields, r.Raw(plan.Size))
	if e != api.OK {
		return api.Part{}, false
	}
	return api.Part{Comp: c.Id, Val: val}, true
}

// rise: whether the components do.
func rise(list []api.Part) bool {
	for i := 1; i < len(list); i++ {
		if list[i].Comp <= list[i-1].Comp {
			return false
		}
	}
	return true
}
