package table

import (
	"slices"

	"retrofit/api"
	"retrofit/layout"
)

// Ent: whose a row is.
func (t *Table) Ent(row int) api.Ent {
	if t.seek(row) != api.OK {
		return 0
	}
	return t.ents[row]
}

// Ents: of all rows.
func (t *Table) Ents() []api.Ent {
	if t == nil {
		return nil
	}
	return slices.Clone(t.ents)
}

// Bytes: of a row, in a component's column; ErrNil, ErrRange, ErrNone.
func (t *Table) Bytes(row, comp int) (string, api.Errno) {
	i, e := t.find(row, comp)
	if e != api.OK {
		return "", e
	}
	return t.columns[i].Get(row)
}

// Get: a component's value; ErrNil, ErrRange, ErrNone.
func (t *Table) Get(row, comp int) ([]api.Int, api.Errno) {
	i, e := t.find(row, comp)
	if e != api.OK {
		return nil, e
	}
	return t.value(row, i)
}

// Set: another value; ErrNil, ErrRange, ErrNone, ErrForm.
func (t *Table) Set(row int, p api.Part) api.Errno {
	i, e := t.find(row, p.Comp)
	if e != api.OK {
		return e
	}
	bytes, e := layout.Pack(t.schema.Comps[i].Fields, p.Val)
	if e != api.OK {
		return e
	}
	return t.columns[i].Set(row, bytes)
}

// Parts: of a row; ErrNil, ErrRange.
func (t *Table) Parts(row int) ([]api.Part, api.Errno) {
	if e := t.seek(row); e != api.OK {
		return nil, e
	}
	parts := make([]api.Part, len(t.columns))
	for i, c := range t.schema.Comps {
		val, e := t.value(row, i)
		if e != api.OK {
			return nil, e
		}
		parts[i] = api.Part{Comp: c.Id, Val: val}
	}
	return parts, api.OK
}

// seek: whether there is a row; ErrNil, ErrRange.
func (t *Table) seek(row int) api.Errno {
	switch {
	case t == nil:
		return api.ErrNil
	case row < 0 || row >= len(t.ents):
		return api.ErrRange
	}
	return api.OK
}

// find is the place of a component, for a row; ErrNil, ErrRange, ErrNone.
func (t *Table) find(row, comp int) (int, api.Errno) {
	if e := t.seek(row); e != api.OK {
		return 0, e
	}
	if !t.set.Has(comp) {
		return 0, api.ErrNone
	}
	return t.place(comp), api.OK
}

// place is where a component of the set stands.
func (t *Table) place(comp int) int {
	return slices.IndexFunc(t.schema.Comps, func(c api.Comp) bool { return c.Id == comp })
}

// value is that of a row that there is, in the column of a place.
func (t *Table) value(row, i int) ([]api.Int, api.Errno) {
	bytes, e := t.columns[i].Get(row)
	if e != api.OK {
		return nil, e
	}
	return layout.Unpack(t.schema.Comps[i].Fields, bytes)
}
