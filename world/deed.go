package world

import (
	"slices"

	"retrofit/api"
	"retrofit/schema"
	"retrofit/sig"
)

// Spawn: somebody new; ErrNil, and those of CheckParts, ErrFull.
func (w *World) Spawn(parts []api.Part) (api.Ent, api.Errno) {
	if w == nil {
		return 0, api.ErrNil
	}
	if err := schema.CheckParts(w.schema, parts); err != api.OK {
		return 0, err
	}
	// Nothing can fail: these are components of a schema, each once.
	set, _ := sig.Parts(parts)
	if w.index.Free() == 0 || !w.hasRoom(set) {
		return 0, api.ErrFull
	}
	e, _ := w.index.Spawn()
	i, _ := w.graph.Make(set)
	w.settle(e, i, parts)
	return e, api.OK
}

// Despawn: somebody ends; ErrNil, ErrStale.
func (w *World) Despawn(e api.Ent) api.Errno {
	h, err := w.find(e)
	if err != api.OK {
		return err
	}
	w.leave(h)
	return w.index.Kill(e)
}

// Add: somebody has a component more; ErrNil, ErrStale, and those of CheckPart, ErrState, ErrFull.
func (w *World) Add(e api.Ent, p api.Part) api.Errno {
	h, err := w.find(e)
	if err != api.OK {
		return err
	}
	if err := schema.CheckPart(w.schema, p); err != api.OK {
		return err
	}
	set := w.set(h)
	switch {
	case h.awaited || set.Has(p.Comp):
		return api.ErrState
	case !w.hasRoom(set.With(p.Comp)):
		return api.ErrFull
	}
	parts, _ := w.graph.Table(h.table).Parts(h.row)
	i, _ := w.graph.Step(h.table, p.Comp, true)
	w.leave(h)
	w.settle(e, i, append(parts, p))
	return api.OK
}

// Remove: somebody has one less; ErrNil, ErrStale, ErrState, ErrNone, ErrFull.
func (w *World) Remove(e api.Ent, comp int) api.Errno {
	h, err := w.find(e)
	if err != api.OK {
		return err
	}
	if err := w.checkHas(h, comp); err != api.OK {
		return err
	}
	if !w.hasRoom(w.set(h).Without(comp)) {
		return api.ErrFull
	}
	parts, _ := w.graph.Table(h.table).Parts(h.row)
	i, _ := w.graph.Step(h.table, comp, false)
	w.leave(h)
	w.settle(e, i, slices.DeleteFunc(parts, func(p api.Part) bool { return p.Comp == comp }))
	return api.OK
}

// Set: another value; ErrNil, ErrStale, and those of CheckPart, ErrState, ErrNone.
func (w *World) Set(e api.Ent, p api.Part) api.Errno {
	h, err := w.find(e)
	if err != api.OK {
		return err
	}
	if err := schema.CheckPart(w.schema, p); err != api.OK {
		return err
	}
	if err := w.checkHas(h, p.Comp); err != api.OK {
		return err
	}
	return w.graph.Table(h.table).Set(h.row, p)
}

// hasRoom: whether one more can have just that set of the schema's components.
// It is asked ahead of all that is done, so that nothing is done by half.
func (w *World) hasRoom(set sig.Sig) bool {
	if i, ok := w.graph.Find(set); ok {
		return w.graph.Table(i).Room() > 0
	}
	return w.graph.Room() > 0
}

// settle gives somebody a row in a table that has room, and just these parts.
func (w *World) settle(e api.Ent, i int, parts []api.Part) {
	row, _ := w.graph.Table(i).Add(e, parts)
	*w.homeOf(e) = home{table: i, row: row}
}

// leave makes a home free: the row goes, or isn't kept free any more.
func (w *World) leave(h home) {
	t := w.graph.Table(h.table)
	if h.awaited {
		t.Yield()
		return
	}
	if moved, _ := t.Drop(h.row); moved != 0 {
		w.homeOf(moved).row = h.row
	}
}
