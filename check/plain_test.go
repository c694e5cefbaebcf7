package check_test

import (
	"math/rand/v2"
	"slices"
	"strconv"
	"testing"

	"retrofit/api"
	"retrofit/check"
	"retrofit/expr"
	"retrofit/rule"
	"retrofit/schema"
)

// P13.4

// TestPlainByHand has one component on both sides.
func TestPlainByHand(t *testing.T) {
	for i, x := range []struct {
		was, now []api.Field
		want     string
	}{
		{nil, nil, "2 from 2"},
		{[]api.Field{of("x", api.U8, 1)}, nil, "2 from 2"},
		{nil, []api.Field{of("x", api.U8, 1), of("r", api.Ref, 1)}, "2 from 2 0 0"},
		{[]api.Field{of("x", api.U8, 1)}, []api.Field{of("x", api.U8, 1)}, "2 from 2 f0@"},
		{[]api.Field{of("x", api.U8, 1)}, []api.Field{of("y", api.U8, 1)}, "2 from 2 0"},
		{[]api.Field{of("x", api.U8, 1)}, []api.Field{of("xx", api.U8, 1)}, "2 from 2 0"},
		// Fields are found by their names, wherever they stand.
		{[]api.Field{of("x", api.U8, 1), of("y", api.U8, 1), of("z", api.U8, 1)},
			[]api.Field{of("z", api.U8, 1), of("w", api.U8, 1), of("x", api.U8, 1), of("y", api.U8, 1)}, "2 from 2 f2@ 0 f0@ f1@"},
		// Their Count may be lesser, not greater.
		{[]api.Field{of("x", api.U8, 3)}, []api.Field{of("x", api.U8, 2)}, "2 from 2 f0@"},
		{[]api.Field{of("x", api.U8, 3)}, []api.Field{of("x", api.U8, 3)}, "2 from 2 f0@"},
		{[]api.Field{of("x", api.U8, 3)}, []api.Field{of("x", api.U8, 4)}, "2 from 2 0"},
		{[]api.Field{of("x", api.Ref, 8)}, []api.Field{of("x", api.Ref, 1)}, "2 from 2 f0@"},
		{[]api.Field{of("x", api.Ref, 1)}, []api.Field{of("x", api.Ref, 2)}, "2 from 2 0"},
		// Numbers may be of another kind, also of one with less room.
		{[]api.Field{of("x", api.I64, 1)}, []api.Field{of("x", api.Bool, 1)}, "2 from 2 f0@"},
		{[]api.Field{of("x", api.U8, 1)}, []api.Field{of("x", api.I8, 1)}, "2 from 2 f0@"},
		{[]api.Field{of("x", api.U64, 1)}, []api.Field{of("x", api.Ref, 1)}, "2 from 2 0"},
		{[]api.Field{of("x", api.Ref, 1)}, []api.Field{of("x", api.U64, 1)}, "2 from 2 0"},
	} {
		old, now := scheme(4, comp(2, "a", x.was...)), scheme(9, comp(2, "b", x.now...))
		p := check.Plain(old, now)
		if lines := rule.Lines(p); p.From != 4 || p.To != 9 || len(lines) != 1 || lines[0] != x.want {
			t.Errorf("%d %q", i, lines)
		}
		if e := check.Check(old, now, p); e != api.OK {
			t.Error(i, e)
		}
	}
}

// TestPlainOfComponents: they are found by their Ids, not by their names.
func TestPlainOfComponents(t *testing.T) {
	x := of("x", api.U8, 1)
	old := scheme(1, comp(1, "a", x), comp(3, "b", x), comp(7, "c"), comp(24, "d", of("y", api.U8, 1), x))
	for i, z := range []struct {
		now  api.Schema
		want []string
	}{
		{scheme(2), nil},
		{scheme(2, comp(2, "a", x)), []string{"fresh 2"}},
		{scheme(2, comp(1, "b", x), comp(3, "a", x)), []string{"1 from 1 f0@", "3 from 3 f0@"}},
		{scheme(2, comp(3, "c")), []string{"3 from 3"}},
		{scheme(2, comp(1, "d", x), comp(2, "a", x), comp(7, "b", x), comp(23, "x"), comp(24, "c", x)),
			[]string{"1 from 1 f0@", "fresh 2", "7 from 7 0", "fresh 23", "24 from 24 f1@"}},
	} {
		p := check.Plain(old, z.now)
		if lines := rule.Lines(p); !slices.Equal(lines, z.want) || check.Check(old, z.now, p) != api.OK {
			t.Errorf("%d %q", i, lines)
		}
	}
	if p := check.Plain(api.Schema{}, api.Schema{}); tell(p) != tell(rule.Program{}) {
		t.Error(tell(p))
	}
}

// TestPlainOfRaw has what no schema has: it isn't asked whether it can be.
func TestPlainOfRaw(t *testing.T) {
	x := of("x", api.U8, 1)
	many := []api.Field{}
	for i := range 300 {
		many = append(many, of("f"+strconv.Itoa(i), api.U8, 1))
	}
	for i, z := range []struct {
		old, now api.Schema
		want     rule.Program
	}{
		{scheme(9), scheme(-9), prog(9, -9)},
		{scheme(minInt), scheme(maxInt), prog(minInt, maxInt)},
		{scheme(5), scheme(5, comp(1, "a", x)), prog(5, 5, fresh(1))},
		// The order, and how often, as new has it.
		{scheme(1, comp(2, "a", x)), scheme(2, comp(2, "a", x), comp(1, "b"), comp(2, "?", x, x)),
			prog(1, 2, made(2, 2, code(here(0))), fresh(1), made(2, 2, code(here(0)), code(here(0))))},
		// The first component of an Id, and the first field of a name, alone.
		{scheme(1, comp(2, "a"), comp(2, "a", x)), scheme(2, comp(2, "a", x)), prog(1, 2, made(2, 2, code(num(0))))},
		{scheme(1, comp(2, "a", of("x", api.Ref, 1), x)), scheme(2, comp(2, "a", x)), prog(1, 2, made(2, 2, code(num(0))))},
		{scheme(1, comp(2, "a", of("x", api.U8, 0), x)), scheme(2, comp(2, "a", x)), prog(1, 2, made(2, 2, code(num(0))))},
		{scheme(1, comp(2, "a", x, of("x", api.Ref, 1))), scheme(2, comp(2, "a", x, of("x", api.Ref, 1))),
			prog(1, 2, made(2, 2, code(here(0)), code(num(0))))},
		// Ids, kinds, counts and names that there aren't.
		{scheme(1, comp(-3, "", x)), scheme(2, comp(-3, "", x), comp(minInt, "")), prog(1, 2, made(-3, -3, code(here(0))), fresh(minInt))},
		{scheme(1, comp(0, "", x)), scheme(2, comp(0, "", x)), prog(1, 2, made(0, 0, code(here(0))))},
		{scheme(1, comp(1, "", of("", 99, minInt))), scheme(2, comp(1, "", of("", -1, minInt), of("", 10, minInt), of("", 0, 0))),
			prog(1, 2, made(1, 1, code(here(0)), code(num(0)), code(num(0))))},
		{scheme(1, comp(1, "", many...)), scheme(2, comp(1, "", of("f299", api.I8, 1), of("f300", api.I8, 1), of("f8", api.I8, 2))),
			prog(1, 2, made(1, 1, code(here(299)), code(num(0)), code(num(0))))},
	} {
		if p := check.Plain(z.old, z.now); tell(p) != tell(z.want) || tell(plain(z.old, z.now)) != tell(z.want) {
			t.Error(i, tell(p))
		}
	}
}

// greatest has as many components and fields as a schema may have.
func greatest(version int) api.Schema {
	s := scheme(version)
	for id := 1; id <= 24; id++ {
		c := comp(id, "c"+strconv.Itoa(id))
		for at := range 8 {
			c.Fields = append(c.Fields, of("f"+strconv.Itoa(at), api.Kind(1+at+id%3), 4))
		}
		s.Comps = append(s.Comps, c)
	}
	return s
}

func TestPlainOfTheGreatest(t *testing.T) {
	old, now := greatest(1), greatest(1<<30)
	for at := range now.Comps {
		slices.Reverse(now.Comps[at].Fields)
	}
	p := check.Plain(old, now)
	if e := check.Check(old, now, p); e != api.OK || len(p.Rules) != 24 || tell(p) != tell(plain(old, now)) {
		t.Error(e)
	}
	for _, r := range p.Rules {
		for at, c := range r.Exprs {
			if len(r.Exprs) != 8 || !slices.Equal(c, code(here(7-at))) {
				t.Error(r.New, at, c)
			}
		}
	}
}

func TestManyPlain(t *testing.T) {
	dice := rand.New(rand.NewPCG(4, 13))
	passed, kept, refused := 0, 0, 0
	for range 100000 {
		old, now := someScheme(dice, 1+dice.IntN(4)), someScheme(dice, 1+dice.IntN(5))
		p := check.Plain(old, now)
		if tell(p) != tell(plain(old, now)) {
			t.Fatal(old, now, tell(p))
		}
		for _, r := range p.Rules {
			kept += len(r.Exprs)
		}
		if schema.Check(old) != api.OK || schema.Check(now) != api.OK {
			continue
		}
		want := api.ErrState
		if old.Version < now.Version {
			want = api.OK
			passed++
		} else {
			refused++
		}
		if e := check.Check(old, now, p); e != want {
			t.Fatal(old, now, tell(p), e)
		}
	}
	if passed < 10000 || refused < 10000 || kept < 10000 {
		t.Error(passed, refused, kept)
	}
}

// Rule 3 of DOC.md

func TestPlainIsNew(t *testing.T) {
	m := good()
	m.now = schema.Clone(m.old)
	for at := range m.now.Comps {
		m.now.Comps[at].Fields = append(m.now.Comps[at].Fields, of("more", api.U8, 1), of("room", api.U8, 1))
	}
	was := schema.Clone(m.now)
	want := tell(check.Plain(m.old, m.now))
	p := check.Plain(m.old, m.now)
	for at := range p.Rules {
		for i := range p.Rules[at].Exprs {
			// Room that lists shared would be seen in the others.
			_ = append(p.Rules[at].Exprs[i], op(55))
		}
		_ = append(p.Rules[at].Exprs, code(op(54)))
	}
	_ = append(p.Rules, fresh(53))
	if tell(p) != want {
		t.Error(tell(p))
	}
	for at := range p.Rules {
		for i := range p.Rules[at].Exprs {
			before := tell(prog(0, 0, p.Rules[:at]...)) + tell(prog(0, 0, p.Rules[at+1:]...))
			p.Rules[at].Exprs[i][0] = expr.Ins{Op: 55, A: at, B: i}
			if tell(prog(0, 0, p.Rules[:at]...))+tell(prog(0, 0, p.Rules[at+1:]...)) != before {
				t.Error(at, i)
			}
		}
	}
	for at, r := range p.Rules {
		for i, c := range r.Exprs {
			if c[0].A != at || c[0].B != i {
				t.Error(at, i, c)
			}
		}
	}
	if tell(check.Plain(m.old, m.now)) != want || !schema.Same(m.old, good().old) || !schema.Same(m.now, was) {
		t.Error(m)
	}
}
