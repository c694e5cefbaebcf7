package rule_test

import (
	"math/rand/v2"
	"slices"
	"strconv"
	"strings"

	"retrofit/api"
	"retrofit/expr"
	"retrofit/rule"
	"retrofit/wide"
)

// A second reading of the chapter, and the programs that the tests are made
// of. What is of formulas alone is layer 11's.

const (
	maxInt = 1<<63 - 1
	minInt = -1 << 63
)

func code(list ...expr.Ins) []expr.Ins { return list }

func num(n int) expr.Ins { return expr.Ins{Op: expr.Num, K: wide.Of(n)} }

func elem(a, b int) expr.Ins { return expr.Ins{Op: expr.Elem, A: a, B: b} }

func here(a int) expr.Ins { return expr.Ins{Op: expr.Here, A: a} }

func op(n int) expr.Ins { return expr.Ins{Op: n} }

// twice is the formula of the chapter's example.
func twice() []expr.Ins { return code(elem(0, 0), num(2), op(expr.Mul)) }

// long is a formula of so many instructions: place, and its opposites.
func long(n int) []expr.Ins {
	return append(code(op(expr.Place)), slices.Repeat(code(op(expr.Neg)), n-1)...)
}

func prog(from, to int, list ...rule.Rule) rule.Program {
	return rule.Program{From: from, To: to, Rules: list}
}

func fresh(id int) rule.Rule { return rule.Rule{New: id} }

func made(id, old int, list ...[]expr.Ins) rule.Rule {
	return rule.Rule{New: id, Old: old, Exprs: list}
}

// times are n formulas that are the same.
func times(n int, c []expr.Ins) [][]expr.Ins {
	list := make([][]expr.Ins, n)
	for i := range list {
		list[i] = slices.Clone(c)
	}
	return list
}

// three has a rule with formulas, a fresh one, and one without formulas.
func three() rule.Program {
	return prog(7, 258, made(2, 1, twice(), code(here(1))), fresh(5), made(24, 24))
}

const twiceBytes = "\x03" + "\x02\x00\x00" + "\x01\x00" + "\x02\x00\x00\x00\x00\x00\x00\x00" + "\x00\x00\x00\x00\x00\x00\x00\x00" + "\x07"

const threeBytes = "\x4d\x07\x00\x00\x00\x02\x01\x00\x00\x03" +
	"\x02\x01\x02" + "\x17\x00\x00\x00" + twiceBytes + "\x03\x00\x00\x00" + "\x01\x03\x01" +
	"\x05\x00\x00" +
	"\x18\x18\x00"

// greatest has as much of everything as a program may have.
func greatest() rule.Program {
	p := prog(1<<30, 1<<30)
	top := expr.Ins{Op: expr.Num, K: api.Int{Neg: true, Hi: 1<<63 - 1, Lo: 1<<64 - 1}}
	longest := append(code(top), slices.Repeat(code(top, op(expr.Least)), 31)...)
	longest = append(longest, op(expr.Not))
	for id := 1; id <= 24; id++ {
		p.Rules = append(p.Rules, made(id, 25-id, times(8, longest)...))
	}
	return p
}

// badCodes are formulas that have no bytes, each with its error.
func badCodes() map[api.Errno][][]expr.Ins {
	return map[api.Errno][][]expr.Ins{
		api.ErrForm: {
			nil, {}, code(op(0)), code(op(18)), code(op(expr.Neg)), code(num(1), num(1)), code(here(8)), code(here(-1)),
			code(elem(0, 8)), code(elem(0, -1)), code(expr.Ins{Op: expr.Num, K: api.Int{Neg: true}}),
			slices.Repeat(code(op(expr.Place)), 64),
			append(slices.Repeat(code(op(expr.Place)), 17), slices.Repeat(code(op(expr.Add)), 16)...),
		},
		api.ErrFull: {long(65), make([]expr.Ins, 65), make([]expr.Ins, 300)},
		api.ErrArg: {
			code(expr.Ins{Op: expr.Place, A: 1}), code(expr.Ins{Op: expr.Here, B: 1}),
			code(expr.Ins{Op: expr.Elem, K: wide.Of(1)}), code(num(1), expr.Ins{Op: expr.Neg, B: 7}),
		},
	}
}

// faults are all that is wrong with a program, in the order of the sentence.
func faults(p rule.Program) []api.Errno {
	list := []api.Errno{}
	add := func(e api.Errno, is bool) {
		if is {
			list = append(list, e)
		}
	}
	for _, version := range []int{p.From, p.To} {
		add(api.ErrArg, version <= 0 || version > 1073741824)
	}
	for i, r := range p.Rules {
		add(api.ErrArg, r.New <= 0 || r.New >= 25)
		add(api.ErrArg, r.Old <= -1 || r.Old >= 25)
		add(api.ErrArg, i > 0 && p.Rules[i-1].New >= r.New)
		add(api.ErrForm, r.Old == 0 && len(r.Exprs) != 0)
		add(api.ErrFull, len(r.Exprs) >= 9)
		for _, c := range r.Exprs {
			_, e := expr.Encode(c)
			add(e, e != api.OK)
		}
	}
	return list
}

// check is the first fault, or none.
func check(p rule.Program) api.Errno { return append(faults(p), api.OK)[0] }

// written are the bytes as the document tells them, whether or not the program
// is well formed; of what has more bytes than there is room for the lowest
// ones, and no bytes of a formula that has none.
func written(p rule.Program) string {
	b := append([]byte{'M'}, low(p.From)...)
	b = append(b, low(p.To)...)
	b = append(b, byte(len(p.Rules)))
	for _, r := range p.Rules {
		b = append(b, byte(r.New), byte(r.Old), byte(len(r.Exprs)))
		for _, c := range r.Exprs {
			s, _ := expr.Encode(c)
			b = append(append(b, low(len(s))...), s...)
		}
	}
	return string(b)
}

func low(n int) []byte { return []byte{byte(n), byte(n >> 8), byte(n >> 16), byte(n >> 24)} }

// scan cuts bytes off the front, and knows when there were too few.
type scan struct {
	rest string
	bad  bool
}

func (x *scan) cut(n int) string {
	if x.bad || n > len(x.rest) {
		x.bad = true
		return ""
	}
	s := x.rest[:n]
	x.rest = x.rest[n:]
	return s
}

func (x *scan) num(n int) int {
	sum := 0
	for i, b := range []byte(x.cut(n)) {
		sum += int(b) << (8 * i)
	}
	return sum
}

// read is a second reading of what a program's bytes are; false: of none.
func read(bytes string) (rule.Program, bool) {
	x := &scan{rest: bytes}
	if x.num(1) != 77 {
		return rule.Program{}, false
	}
	p := prog(x.num(4), 0)
	p.To = x.num(4)
	for range x.num(1) {
		r := rule.Rule{New: x.num(1)}
		r.Old = x.num(1)
		for range x.num(1) {
			c, e := expr.Decode(x.cut(x.num(4)))
			if e != api.OK {
				return rule.Program{}, false
			}
			r.Exprs = append(r.Exprs, c)
		}
		p.Rules = append(p.Rules, r)
	}
	return p, !x.bad && x.rest == "" && len(faults(p)) == 0
}

// same compares by a text that tells all of a program.
func same(a, b rule.Program) bool { return tell(a) == tell(b) }

func tell(p rule.Program) string {
	text := &strings.Builder{}
	put := func(list ...int) {
		for _, n := range list {
			text.WriteString(strconv.Itoa(n) + ",")
		}
	}
	put(p.From, p.To)
	for _, r := range p.Rules {
		text.WriteString("\nrule ")
		put(r.New, r.Old)
		for _, c := range r.Exprs {
			text.WriteString("\nformula ")
			for _, i := range c {
				put(i.Op, i.A, i.B)
				text.WriteString(strconv.FormatBool(i.K.Neg) + strconv.FormatUint(i.K.Hi, 10) + "." + strconv.FormatUint(i.K.Lo, 10) + " ")
			}
		}
	}
	return text.String()
}

// lines is a second reading of Lines.
func lines(p rule.Program) []string {
	if len(faults(p)) > 0 {
		return nil
	}
	list := []string{}
	for _, r := range p.Rules {
		text := "fresh " + strconv.Itoa(r.New)
		if r.Old > 0 {
			text = strconv.Itoa(r.New) + " from " + strconv.Itoa(r.Old)
		}
		for _, c := range r.Exprs {
			text += " " + expr.Show(c)
		}
		list = append(list, text)
	}
	return list
}

// isZero: whether a program is the zero one, without rules.
func isZero(p rule.Program) bool { return p.From == 0 && p.To == 0 && len(p.Rules) == 0 }

// refuses: whether there is no program with these bytes.
func refuses(bytes string) bool {
	p, e := rule.Decode(bytes)
	return e == api.ErrForm && isZero(p)
}

// holds: whether Decode answers of these bytes what the second reading does.
func holds(bytes string) bool {
	want, is := read(bytes)
	if !is {
		return refuses(bytes)
	}
	p, e := rule.Decode(bytes)
	if e != api.OK || !same(p, want) || !rule.Same(p, want) {
		return false
	}
	again, e := rule.Encode(p)
	return e == api.OK && again == bytes
}

// someCode is mostly a formula that has bytes.
func someCode(dice *rand.Rand) []expr.Ins {
	switch dice.IntN(60) {
	case 0:
		list := badCodes()[api.ErrForm]
		return list[dice.IntN(len(list))]
	case 1:
		list := badCodes()[api.ErrArg]
		return list[dice.IntN(len(list))]
	case 2:
		return long(63 + dice.IntN(3))
	}
	list, depth := []expr.Ins{}, 0
	for depth != 1 || dice.IntN(2) == 0 {
		if depth > 1 && dice.IntN(4) > 0 {
			list, depth = append(list, op(expr.Add+dice.IntN(5))), depth-1
			continue
		}
		leaf := code(num(dice.IntN(7)-3), elem(dice.IntN(8), dice.IntN(8)), here(dice.IntN(8)), op(expr.Place))
		list, depth = append(list, leaf[dice.IntN(4)]), depth+1
	}
	return list
}

// someProgram is made of few ids, so that they meet often.
func someProgram(dice *rand.Rand) rule.Program {
	p := prog(1+dice.IntN(3), 1+dice.IntN(3))
	if dice.IntN(30) == 0 {
		p.From = []int{0, -1, 1 << 30, 1<<30 + 1}[dice.IntN(4)]
	}
	if dice.IntN(30) == 0 {
		p.To = []int{0, -1, 1 << 30, 1<<30 + 1}[dice.IntN(4)]
	}
	id := 0
	for range dice.IntN(5) {
		id += 1 + dice.IntN(7) - dice.IntN(30)/29*9
		r := rule.Rule{New: id, Old: dice.IntN(5) - dice.IntN(100)/99 + dice.IntN(50)/49*21}
		if r.Old != 0 || dice.IntN(30) == 0 {
			for range dice.IntN(4) + dice.IntN(15)/14*6 {
				r.Exprs = append(r.Exprs, someCode(dice))
			}
		}
		p.Rules = append(p.Rules, r)
	}
	return p
}

// goodProgram is one that is well formed.
func goodProgram(dice *rand.Rand) rule.Program {
	for {
		if p := someProgram(dice); len(faults(p)) == 0 {
			return p
		}
	}
}

// withRoom copies a program with all that its lists have room for.
func withRoom(p rule.Program) rule.Program {
	copied := prog(p.From, p.To)
	for _, r := range p.Rules[:cap(p.Rules)] {
		o := rule.Rule{New: r.New, Old: r.Old}
		for _, c := range r.Exprs[:cap(r.Exprs)] {
			o.Exprs = append(o.Exprs, slices.Clone(c[:cap(c)]))
		}
		copied.Rules = append(copied.Rules, o)
	}
	return copied
}

// kept is the same program with room behind all its lists, and tells whether
// they and their room are still as they were.
func kept(p rule.Program) (rule.Program, func() bool) {
	given := prog(p.From, p.To)
	for _, r := range p.Rules {
		o := rule.Rule{New: r.New, Old: r.Old}
		for _, c := range r.Exprs {
			o.Exprs = append(o.Exprs, append(slices.Clone(c), op(99), op(98))[:len(c)])
		}
		o.Exprs = append(o.Exprs, code(op(97)), code(op(96)))[:len(r.Exprs)]
		given.Rules = append(given.Rules, o)
	}
	given.Rules = append(given.Rules, made(95, 94, code(op(93))), fresh(92))[:len(p.Rules)]
	was := tell(withRoom(given))
	return given, func() bool { return tell(withRoom(given)) == was }
}

// spoil turns all that a rule has, and its room.
func spoil(r rule.Rule) {
	for _, c := range r.Exprs[:cap(r.Exprs)] {
		for i := range c[:cap(c)] {
			c[:cap(c)][i] = op(55)
		}
	}
	for i := range r.Exprs[:cap(r.Exprs)] {
		r.Exprs[:cap(r.Exprs)][i] = code(op(54))
	}
}

func joined(list []string) string { return strings.Join(list, "\n") }
