package graph

import (
	"retrofit/api"
	"retrofit/schema"
	"retrofit/sig"
)

// way leads from a table, by a component that is added, or removed.
type way struct {
	from, comp int
	add        bool
}

// back is the way from where this one leads.
func (w way) back(to int) way {
	return way{from: to, comp: w.comp, add: !w.add}
}

// of is the set to which the way leads from that one.
func (w way) of(set sig.Sig) sig.Sig {
	if w.add {
		return set.With(w.comp)
	}
	return set.Without(w.comp)
}

// Ways: how many are known.
func (g *Graph) Ways() int {
	if g == nil {
		return 0
	}
	return len(g.ways)
}

// Knows: whether a way is known.
func (g *Graph) Knows(i, comp int, add bool) bool {
	if g == nil {
		return false
	}
	_, known := g.ways[way{from: i, comp: comp, add: add}]
	return known
}

// Step: along a way; ErrNil, ErrRange, ErrNone, ErrState, ErrFull.
func (g *Graph) Step(i, comp int, add bool) (int, api.Errno) {
	if g == nil {
		return 0, api.ErrNil
	}
	w := way{from: i, comp: comp, add: add}
	// A way that is known leads to the same table for good, since none goes.
	if to, known := g.ways[w]; known {
		return to, api.OK
	}
	if e := g.checkStep(w); e != api.OK {
		return 0, e
	}
	to, e := g.Make(w.of(g.tables[i].Sig()))
	if e != api.OK {
		return 0, e
	}
	g.ways[w] = to
	g.ways[w.back(to)] = i
	return to, api.OK
}

// checkStep asks whether there is such a way, known or not.
func (g *Graph) checkStep(w way) api.Errno {
	t := g.Table(w.from)
	if t == nil {
		return api.ErrRange
	}
	if _, ok := schema.Find(g.schema, w.comp); !ok {
		return api.ErrNone
	}
	if t.Sig().Has(w.comp) == w.add {
		return api.ErrState
	}
	return api.OK
}
