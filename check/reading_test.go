package check_test

import (
	"math/rand/v2"
	"slices"
	"strconv"
	"strings"

	"retrofit/api"
	"retrofit/expr"
	"retrofit/rule"
	"retrofit/schema"
	"retrofit/wide"
)

// A second reading of the chapter, and the schemas and programs that the tests
// are made of.

const (
	maxInt = 1<<63 - 1
	minInt = -1 << 63
)

func of(name string, k api.Kind, n int) api.Field { return api.Field{Name: name, Kind: k, Count: n} }

func comp(id int, name string, list ...api.Field) api.Comp {
	return api.Comp{Id: id, Name: name, Fields: list}
}

func scheme(version int, list ...api.Comp) api.Schema {
	return api.Schema{Version: version, Comps: list}
}

func code(list ...expr.Ins) []expr.Ins { return list }

func num(n int) expr.Ins { return expr.Ins{Op: expr.Num, K: wide.Of(n)} }

func elem(a, b int) expr.Ins { return expr.Ins{Op: expr.Elem, A: a, B: b} }

func here(a int) expr.Ins { return expr.Ins{Op: expr.Here, A: a} }

func op(n int) expr.Ins { return expr.Ins{Op: n} }

func prog(from, to int, list ...rule.Rule) rule.Program {
	return rule.Program{From: from, To: to, Rules: list}
}

func fresh(id int) rule.Rule { return rule.Rule{New: id} }

func made(id, old int, list ...[]expr.Ins) rule.Rule {
	return rule.Rule{New: id, Old: old, Exprs: list}
}

// added puts all of these, 1 to 16, and adds them up.
func added(list ...expr.Ins) []expr.Ins {
	return append(slices.Clone(list), slices.Repeat(code(op(expr.Add)), len(list)-1)...)
}

// long is a formula of so many instructions: place, and its opposites.
func long(n int) []expr.Ins {
	return append(code(op(expr.Place)), slices.Repeat(code(op(expr.Neg)), n-1)...)
}

// mixed has numbers and refs, of all lengths that are told apart.
func mixed() api.Comp {
	return comp(4, "mixed",
		of("a", api.U8, 1), of("b", api.I64, 3), of("r", api.Ref, 1), of("s", api.Ref, 3), of("c", api.Bool, 8))
}

// codes are formulas over mixed, and beyond it, right ones and wrong ones.
func codes() [][]expr.Ins {
	list := [][]expr.Ins{
		nil, code(op(expr.Neg)), code(num(1), num(1)), code(here(8)), code(elem(0, 8)), code(elem(-1, 0)),
		long(64), long(65), make([]expr.Ins, 70),
		code(expr.Ins{Op: expr.Num, A: 5, B: 6}), code(expr.Ins{Op: expr.Num, K: api.Int{Neg: true}}),
		code(expr.Ins{Op: expr.Elem, A: 2, K: wide.Of(7)}), code(expr.Ins{Op: expr.Here, A: 3, B: 7, K: wide.Of(7)}),
	}
	leaves := code(op(expr.Place), num(0), num(1), num(-1), expr.Ins{Op: expr.Num, K: api.Int{Hi: 1}})
	for a := range 8 {
		leaves = append(leaves, here(a), expr.Ins{Op: expr.Here, A: a, B: 7})
		for b := range 8 {
			leaves = append(leaves, elem(a, b))
		}
	}
	for _, x := range leaves {
		list = append(list, code(x), code(x, op(expr.Not)))
		for _, y := range leaves {
			list = append(list, added(x, y))
		}
	}
	return list
}

// formula goes the way of P13.1: it gathers what is wrong in order, and
// answers the first thing of that.
func formula(old api.Comp, f api.Field, list []expr.Ins) api.Errno {
	wrong := []api.Errno{}
	add := func(e api.Errno, is bool) {
		if is {
			wrong = append(wrong, e)
		}
	}
	e := expr.Check(list)
	add(e, e != api.OK)
	for _, i := range list {
		if i.Op != 2 && i.Op != 3 {
			continue
		}
		is := i.A >= 0 && i.A < len(old.Fields)
		add(api.ErrRange, !is)
		if is {
			from := old.Fields[i.A]
			add(api.ErrRange, i.Op == 2 && !(i.B < from.Count))
			add(api.ErrRange, i.Op == 3 && from.Count < f.Count)
			add(api.ErrType, (from.Kind == 10) != (f.Kind == 10))
		}
	}
	add(api.ErrType, f.Kind == 10 && len(list) > 1)
	for _, i := range list {
		add(api.ErrType, f.Kind == 10 && i.Op == 4)
		add(api.ErrType, f.Kind == 10 && i.Op == 1 && wide.Text(i.K) != "0")
	}
	return append(wrong, api.OK)[0]
}

// ofRule goes the way of P13.2.
func ofRule(old, new api.Comp, r rule.Rule) api.Errno {
	if r.Old == 0 {
		return api.OK
	}
	if len(new.Fields) < len(r.Exprs) || len(new.Fields) > len(r.Exprs) {
		return api.ErrForm
	}
	wrong := []api.Errno{}
	for i, f := range new.Fields {
		if e := formula(old, f, r.Exprs[i]); e != api.OK {
			wrong = append(wrong, e)
		}
	}
	return append(wrong, api.OK)[0]
}

// checked goes the way of P13.3.
func checked(old, new api.Schema, p rule.Program) api.Errno {
	for _, e := range []api.Errno{schema.Check(old), schema.Check(new), rule.Check(p)} {
		if e != api.OK {
			return e
		}
	}
	if old.Version != p.From || new.Version != p.To || old.Version >= new.Version {
		return api.ErrState
	}
	rules, was, now := map[int]rule.Rule{}, map[int]api.Comp{}, map[int]api.Comp{}
	for _, r := range p.Rules {
		rules[r.New] = r
	}
	for _, c := range old.Comps {
		was[c.Id] = c
	}
	for _, c := range new.Comps {
		now[c.Id] = c
	}
	for id := range 25 {
		r, hasRule := rules[id]
		_, hasComp := now[id]
		_, hasOld := was[r.Old]
		if hasRule != hasComp || r.Old != 0 && !hasOld {
			return api.ErrNone
		}
	}
	for _, r := range p.Rules {
		if e := ofRule(was[r.Old], now[r.New], r); e != api.OK {
			return e
		}
	}
	return api.OK
}

// plain goes the way of P13.4.
func plain(old, new api.Schema) rule.Program {
	p := prog(old.Version, new.Version)
	for _, c := range new.Comps {
		r := fresh(c.Id)
		// Backwards, so that the first one stays.
		for i := range old.Comps {
			if was := old.Comps[len(old.Comps)-1-i]; was.Id == c.Id {
				r = made(c.Id, c.Id, plainCodes(was, c)...)
			}
		}
		p.Rules = append(p.Rules, r)
	}
	return p
}

func plainCodes(was, now api.Comp) [][]expr.Ins {
	list := [][]expr.Ins{}
	for _, f := range now.Fields {
		one := num(0)
		for i := range was.Fields {
			at := len(was.Fields) - 1 - i
			if from := was.Fields[at]; from.Name == f.Name {
				one = num(0)
				if from.Count >= f.Count && (from.Kind == 10 && f.Kind == 10 || from.Kind != 10 && f.Kind != 10) {
					one = here(at)
				}
			}
		}
		list = append(list, code(one))
	}
	return list
}

// tell is a text that tells all of a program.
func tell(p rule.Program) string {
	text := &strings.Builder{}
	put := func(list ...int) {
		for _, n := range list {
			text.WriteString(strconv.Itoa(n) + ",")
		}
	}
	put(p.From, p.To)
	for _, r := range p.Rules {
		text.WriteString("\nrule ")
		put(r.New, r.Old)
		for _, c := range r.Exprs {
			text.WriteString("\nformula ")
			for _, i := range c {
				put(i.Op, i.A, i.B)
				text.WriteString(strconv.FormatBool(i.K.Neg) + strconv.FormatUint(i.K.Hi, 10) + "." + strconv.FormatUint(i.K.Lo, 10) + " ")
			}
		}
	}
	return text.String()
}

// someFields have few names, kinds and counts, so that they meet often.
func someFields(dice *rand.Rand) []api.Field {
	list := []api.Field{}
	for _, at := range dice.Perm(5)[:dice.IntN(5)] {
		k := []api.Kind{api.U8, api.I64, api.Ref}[dice.IntN(3)]
		list = append(list, of(string(rune('v'+at)), k, 1+dice.IntN(3)))
	}
	switch dice.IntN(300) {
	case 0:
		list = []api.Field{}
		for at := range 5 {
			list = append(list, of(string(rune('a'+at)), api.U64, 7))
		}
	case 1, 2:
		list = append(list, []api.Field{of("v", api.U8, 1), of("V", api.U8, 1), of("u", 11, 1), of("u", api.U8, 9)}[dice.IntN(4)])
	}
	return list
}

// someScheme is mostly one that can be.
func someScheme(dice *rand.Rand, version int) api.Schema {
	s := scheme(version)
	for id := 1; id <= 24; id += 1 + dice.IntN(3) {
		if dice.IntN(2) == 0 {
			s.Comps = append(s.Comps, comp(id, "c"+strconv.Itoa(id), someFields(dice)...))
		}
		if id > 4 && id < 24 {
			id += dice.IntN(20)
		}
	}
	if dice.IntN(50) == 0 {
		s.Comps = append(s.Comps, comp(dice.IntN(27), "x", someFields(dice)...))
	}
	return s
}

// someCode is mostly a formula that is right over few fields.
func someCode(dice *rand.Rand) []expr.Ins {
	leaf := func() expr.Ins {
		return []expr.Ins{num(0), num(1), op(expr.Place), elem(dice.IntN(4), dice.IntN(3)), here(dice.IntN(4)), elem(0, 0), here(0)}[dice.IntN(7)]
	}
	switch dice.IntN(60) {
	case 0:
		return nil
	case 1:
		return long(64 + dice.IntN(2))
	case 2:
		return code(expr.Ins{Op: expr.Here, B: 1})
	}
	list := code(leaf())
	for range dice.IntN(3) {
		list = append(list, leaf())
	}
	return added(list...)
}

// turn makes one thing of a program another one.
func turn(dice *rand.Rand, p *rule.Program) {
	if len(p.Rules) == 0 || dice.IntN(8) == 0 {
		p.From, p.To = p.From+dice.IntN(3)-1, p.To+dice.IntN(3)-1
		return
	}
	at := dice.IntN(len(p.Rules))
	r := &p.Rules[at]
	switch dice.IntN(8) {
	case 0:
		p.Rules = slices.Delete(p.Rules, at, at+1)
	case 1:
		r.New += dice.IntN(3) - 1
	case 2:
		r.Old = dice.IntN(6)
	case 3:
		p.Rules = append(p.Rules, fresh(r.New+1))
	case 4:
		r.Exprs = append(r.Exprs, code(num(0)))
	case 5:
		r.Exprs = r.Exprs[:len(r.Exprs)/2]
	default:
		for i := range r.Exprs {
			r.Exprs[i] = someCode(dice)
		}
	}
}
