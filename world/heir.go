package world

import (
	"slices"

	"retrofit/api"
	"retrofit/schema"
	"retrofit/sig"
)

// Heir: another world, where all are awaited; ErrNil, and those of a schema's Check, ErrArg, ErrNone, ErrFull.
func (w *World) Heir(s api.Schema, first []sig.Sig, list []Await) (*World, api.Errno) {
	if w == nil {
		return nil, api.ErrNil
	}
	if err := schema.Check(s); err != api.OK {
		return nil, err
	}
	if !w.areAll(list) {
		return nil, api.ErrArg
	}
	heir := New(s, w.caps)
	heir.index = w.index.Clone()
	for _, set := range first {
		if _, err := heir.graph.Make(set); err != api.OK {
			return nil, err
		}
	}
	for _, a := range list {
		if err := heir.await(a); err != api.OK {
			return nil, err
		}
	}
	return heir, api.OK
}

// Awaited: who is.
func (w *World) Awaited() []api.Ent {
	return slices.DeleteFunc(w.Live(), func(e api.Ent) bool { return !w.homeOf(e).awaited })
}

// Place: somebody's values are there; ErrNil, ErrStale, ErrNone, ErrForm, and those of CheckParts.
func (w *World) Place(e api.Ent, parts []api.Part) api.Errno {
	h, err := w.find(e)
	switch {
	case err != api.OK:
		return err
	case !h.awaited:
		return api.ErrNone
	}
	if set, err := sig.Parts(parts); err != api.OK || set != w.set(h) {
		return api.ErrForm
	}
	if err := schema.CheckParts(w.schema, parts); err != api.OK {
		return err
	}
	// The row that was kept free makes the room.
	w.leave(h)
	w.settle(e, h.table, parts)
	return api.OK
}

// areAll: whether these are just those who live, each once.
func (w *World) areAll(list []Await) bool {
	if len(list) != w.index.Count() {
		return false
	}
	seen := map[api.Ent]struct{}{}
	for _, a := range list {
		if !w.index.Alive(a.Ent) {
			return false
		}
		seen[a.Ent] = struct{}{}
	}
	return len(seen) == len(list)
}

// await keeps a row free for somebody who lives; ErrNone, ErrFull.
func (w *World) await(a Await) api.Errno {
	i, err := w.graph.Make(a.Sig)
	if err != api.OK {
		return err
	}
	if err := w.graph.Table(i).Keep(); err != api.OK {
		return err
	}
	*w.homeOf(a.Ent) = home{table: i, awaited: true}
	return api.OK
}
