package schema

import (
	"retrofit/api"
	"retrofit/layout"
)

// CheckPart: whether a value can be; ErrNone, ErrArg, ErrFull, ErrForm, ErrRange.
func CheckPart(s api.Schema, p api.Part) api.Errno {
	c, is := Find(s, p.Comp)
	if !is {
		return api.ErrNone
	}
	return layout.Fit(c.Fields, p.Val)
}

// CheckParts: whether all can be; ErrArg, and those of CheckPart.
func CheckParts(s api.Schema, list []api.Part) api.Errno {
	seen := map[int]struct{}{}
	for _, p := range list {
		if _, is := seen[p.Comp]; is {
			return api.ErrArg
		}
		seen[p.Comp] = struct{}{}
		if e := CheckPart(s, p); e != api.OK {
			return e
		}
	}
	return api.OK
}
