package world_test

import (
	"math/rand/v2"
	"slices"
	"testing"

	"retrofit/api"
	"retrofit/field"
	"retrofit/schema"
	"retrofit/sig"
	"retrofit/wide"
	"retrofit/world"
)

// What the tests do by the dice.

// someValue fits; often its numbers are bounds.
func someValue(dice *rand.Rand, list []api.Field) []api.Int {
	val := []api.Int{}
	for _, f := range list {
		for range f.Count {
			x := wide.Of(dice.IntN(2))
			switch dice.IntN(4) {
			case 0:
				x = field.Least(f.Kind)
			case 1:
				x = field.Greatest(f.Kind)
			case 2:
				x = field.Clamp(f.Kind, wide.Of(dice.IntN(70000)-30000))
			}
			val = append(val, x)
		}
	}
	return val
}

func fieldsOf(s api.Schema, id int) []api.Field {
	c, _ := schema.Find(s, id)
	return c.Fields
}

func somePart(dice *rand.Rand, s api.Schema, id int) api.Part {
	return api.Part{Comp: id, Val: someValue(dice, fieldsOf(s, id))}
}

// partsOf are right ones of these components, in some order.
func partsOf(dice *rand.Rand, s api.Schema, ids []int) []api.Part {
	parts := []api.Part{}
	for _, i := range dice.Perm(len(ids)) {
		parts = append(parts, somePart(dice, s, ids[i]))
	}
	return parts
}

// someIds are some of the schema's; few of them mostly, so that some have the
// same.
func someIds(dice *rand.Rand, s api.Schema) []int {
	ids := []int{}
	for i, id := range idsOf(s) {
		if dice.IntN(2+i) == 0 {
			ids = append(ids, id)
		}
	}
	return ids
}

// spoil makes a part wrong: its component, its length, or a number.
func spoil(dice *rand.Rand, s api.Schema, p api.Part) api.Part {
	p.Val = slices.Clone(p.Val)
	switch n := len(p.Val); {
	case dice.IntN(3) == 0:
		wrong := notIn(idsOf(s))
		p.Comp = wrong[dice.IntN(len(wrong))]
	case n == 0 || dice.IntN(3) == 0:
		p.Val = append(p.Val, api.Int{})
	case dice.IntN(2) == 0:
		p.Val = p.Val[:n-1]
	default:
		list := []api.Int{{Neg: true}, {Hi: 1}, {Neg: true, Lo: 1<<63 + 1}, {Hi: 1 << 63}}
		p.Val[dice.IntN(n)] = list[dice.IntN(len(list))]
	}
	return p
}

// someParts are for somebody new, wrong ones now and then.
func someParts(dice *rand.Rand, s api.Schema, ids []int) []api.Part {
	parts := partsOf(dice, s, ids)
	if len(parts) == 0 || dice.IntN(6) > 0 {
		return parts
	}
	i := dice.IntN(len(parts))
	switch dice.IntN(4) {
	case 0:
		return append(parts, parts[i])
	case 1:
		return slices.Delete(parts, i, i+1)
	}
	parts[i] = spoil(dice, s, parts[i])
	return parts
}

// somebody lives, mostly.
func somebody(dice *rand.Rand, b *book) api.Ent {
	live := b.live()
	if len(live) == 0 || dice.IntN(12) == 0 {
		list := strangers(b)
		return list[dice.IntN(len(list))]
	}
	return live[dice.IntN(len(live))].e
}

// deed does some one thing, a wrong one now and then.
func deed(t testing.TB, dice *rand.Rand, w twin) api.Errno {
	t.Helper()
	s := w.b.s
	e := somebody(dice, w.b)
	l := w.b.find(e)
	p := api.Part{}
	if ids := idsOf(s); len(ids) > 0 {
		p = somePart(dice, s, ids[dice.IntN(len(ids))])
	}
	if dice.IntN(10) == 0 {
		p = spoil(dice, s, p)
	}
	switch k := dice.IntN(14); {
	case k < 4:
		_, err := w.spawn(t, someParts(dice, s, someIds(dice, s))...)
		return err
	case k < 6:
		return w.despawn(t, e)
	case k < 8:
		return w.add(t, e, p)
	case k < 10:
		return w.remove(t, e, p.Comp)
	case k < 12 || l == nil:
		return w.set(t, e, p)
	}
	return w.place(t, e, someParts(dice, s, l.ids())...)
}

// waiting is an Await for each who lives, in some order, of some sets.
func waiting(dice *rand.Rand, b *book, s api.Schema) []world.Await {
	live, list := b.live(), []world.Await{}
	for _, i := range dice.Perm(len(live)) {
		list = append(list, world.Await{Ent: live[i].e, Sig: setOf(someIds(dice, s)...)})
	}
	return list
}

// heirOf is an heir by some sets, if there is room for them all.
func heirOf(t testing.TB, dice *rand.Rand, w twin, s api.Schema) (twin, api.Errno) {
	t.Helper()
	first := []sig.Sig{}
	for range dice.IntN(4) {
		first = append(first, setOf(someIds(dice, s)...))
	}
	return w.heir(t, s, first, waiting(dice, w.b, s))
}

// orHeir is an heir of some schema, or the world itself, if it can't have such
// a one.
func orHeir(t testing.TB, dice *rand.Rand, w twin) twin {
	t.Helper()
	h, err := heirOf(t, dice, w, []api.Schema{five(), other(), whole()}[dice.IntN(3)])
	if err != api.OK {
		return w
	}
	return h
}
