package eval

import (
	"slices"

	"retrofit/api"
	"retrofit/check"
	"retrofit/rule"
	"retrofit/schema"
	"retrofit/sig"
)

// Sig: what a set becomes.
func Sig(p rule.Program, s sig.Sig) sig.Sig {
	made := sig.Sig(0)
	for _, r := range p.Rules {
		if s.Has(r.Old) {
			made = made.With(r.New)
		}
	}
	return made
}

// Parts: what parts become; the error.
func Parts(old, new api.Schema, p rule.Program, list []api.Part) ([]api.Part, api.Errno) {
	if e := check.Check(old, new, p); e != api.OK {
		return nil, e
	}
	if e := schema.CheckParts(old, list); e != api.OK {
		return nil, e
	}
	made := []api.Part{}
	for _, r := range p.Rules {
		// No part is of the Old of a fresh rule.
		part, is := find(list, r.Old)
		if !is {
			continue
		}
		// Both are there: the program goes from the one schema to the other.
		was, _ := schema.Find(old, r.Old)
		now, _ := schema.Find(new, r.New)
		val, e := Value(was, now, r, part.Val)
		if e != api.OK {
			return nil, e
		}
		made = append(made, api.Part{Comp: r.New, Val: val})
	}
	return made, api.OK
}

// find is the part of a component; false: there is none.
func find(list []api.Part, comp int) (api.Part, bool) {
	i := slices.IndexFunc(list, func(p api.Part) bool { return p.Comp == comp })
	if i < 0 {
		return api.Part{}, false
	}
	return list[i], true
}
