package rule_test

import (
	"math/rand/v2"
	"slices"
	"strconv"
	"testing"

	"retrofit/api"
	"retrofit/expr"
	"retrofit/rule"
	"retrofit/wide"
)

// numbers are ids and versions at all edges, and far beyond.
var numbers = []int{
	minInt, minInt + 1, -1 << 32, -256, -25, -2, -1, 0, 1, 2, 7, 8, 9, 23, 24, 25, 26, 254, 255, 256, 257, 280,
	1<<30 - 1, 1 << 30, 1<<30 + 1, 1 << 31, 1<<32 - 1, 1 << 32, 1<<32 + 1, maxInt - 1, maxInt,
}

// P12.1

func TestVersions(t *testing.T) {
	for _, from := range numbers {
		for _, to := range numbers {
			want := api.OK
			if from < 1 || from > 1<<30 || to < 1 || to > 1<<30 {
				want = api.ErrArg
			}
			if e := rule.Check(prog(from, to)); e != want {
				t.Error(from, to, e)
			}
			// They are asked ahead of all rules.
			if e := rule.Check(prog(from, to, made(1, 0, twice()))); want != api.OK && e != want || want == api.OK && e != api.ErrForm {
				t.Error(from, to, e)
			}
		}
	}
}

func TestNewAndOld(t *testing.T) {
	for _, id := range numbers {
		for _, old := range numbers {
			want := api.OK
			if id < 1 || id > 24 || old < 0 || old > 24 {
				want = api.ErrArg
			}
			if e := rule.Check(prog(1, 2, rule.Rule{New: id, Old: old})); e != want {
				t.Error(id, old, e)
			}
			// They are asked ahead of the rule's formulas, and of all behind it.
			for _, list := range [][][]expr.Ins{times(1, nil), times(9, twice()), times(9, nil)} {
				r := rule.Rule{New: id, Old: old, Exprs: list}
				if e := rule.Check(prog(1, 2, r, r)); want != api.OK && e != want || want == api.OK && e == api.OK {
					t.Error(id, old, e)
				}
			}
		}
	}
}

func TestNewRises(t *testing.T) {
	for a := range 27 {
		for b := range 27 {
			for c := range 27 {
				want := api.ErrArg
				if 1 <= a && a < b && b < c && c <= 24 {
					want = api.OK
				}
				if e := rule.Check(prog(1, 2, fresh(a), made(b, 3), fresh(c))); e != want {
					t.Fatal(a, b, c, e)
				}
			}
		}
	}
	all := prog(1, 2)
	for id := 1; id <= 24; id++ {
		all.Rules = append(all.Rules, fresh(id))
		if e := rule.Check(all); e != api.OK {
			t.Error(id, e)
		}
	}
	// Old neither rises nor is of one rule alone.
	if e := rule.Check(prog(2, 1, made(1, 24), made(2, 24), fresh(3), made(4, 1), made(5, 5))); e != api.OK {
		t.Error(e)
	}
}

func TestFormulas(t *testing.T) {
	for n := range 30 {
		want := []api.Errno{api.OK, api.ErrFull}[min(n/9, 1)]
		if e := rule.Check(prog(1, 2, made(1, 1, times(n, twice())...))); e != want {
			t.Error(n, e)
		}
		want = []api.Errno{api.OK, api.ErrForm}[min(n, 1)]
		if e := rule.Check(prog(1, 2, made(1, 0, times(n, twice())...))); e != want {
			t.Error(n, e)
		}
		for err, list := range badCodes() {
			for i, c := range list {
				if n == 0 {
					continue
				}
				// One that is wrong, at any place, among n.
				for at := range n {
					all := times(n, twice())
					all[at] = c
					if e := rule.Check(prog(1, 2, made(1, 1, all...))); n < 9 && e != err || n > 8 && e != api.ErrFull {
						t.Fatal(err, i, n, at, e)
					}
					if e := rule.Check(prog(1, 2, made(1, 0, all...))); e != api.ErrForm {
						t.Fatal(err, i, n, at, e)
					}
				}
			}
		}
	}
}

func TestLongFormulas(t *testing.T) {
	for n := 1; n < 130; n++ {
		want := []api.Errno{api.OK, api.ErrFull}[min(n/65, 1)]
		if e := rule.Check(prog(1, 2, made(1, 1, long(n)))); e != want {
			t.Error(n, e)
		}
	}
}

// wrongRules are rules that can't stand behind one of New 2, each with its
// error.
func wrongRules() []struct {
	r    rule.Rule
	want api.Errno
} {
	bad := badCodes()
	return []struct {
		r    rule.Rule
		want api.Errno
	}{
		{fresh(2), api.ErrArg}, {fresh(1), api.ErrArg}, {fresh(25), api.ErrArg}, {made(3, -1), api.ErrArg}, {made(3, 25), api.ErrArg},
		{made(3, 0, twice()), api.ErrForm}, {made(3, 0, times(9, nil)...), api.ErrForm}, {made(3, 1, times(9, nil)...), api.ErrFull},
		{made(3, 1, bad[api.ErrForm][2]), api.ErrForm}, {made(3, 1, bad[api.ErrFull][0]), api.ErrFull}, {made(3, 1, bad[api.ErrArg][0]), api.ErrArg},
	}
}

func TestFirstWrongRule(t *testing.T) {
	for i, x := range wrongRules() {
		for j, y := range wrongRules() {
			second := y.r
			second.New++
			if e := rule.Check(prog(1, 2, fresh(2), x.r, second)); e != x.want {
				t.Error(i, j, e)
			}
			if e := rule.Check(prog(1, 2, made(1, 1, twice()), made(2, 2), x.r)); e != x.want {
				t.Error(i, e)
			}
			if e := rule.Check(prog(1, 0, x.r, y.r)); e != api.ErrArg {
				t.Error(i, j, e)
			}
		}
	}
	// Of two formulas the first one that is wrong.
	for first, some := range badCodes() {
		for _, others := range badCodes() {
			for _, a := range some {
				for _, b := range others {
					if e := rule.Check(prog(1, 2, made(1, 1, twice(), a, b))); e != first {
						t.Error(first, e)
					}
				}
			}
		}
	}
}

func TestManyChecks(t *testing.T) {
	dice := rand.New(rand.NewPCG(1, 12))
	seen := map[api.Errno]int{}
	for range 100000 {
		p := someProgram(dice)
		want := check(p)
		seen[want]++
		if e := rule.Check(p); e != want {
			t.Fatal(tell(p), e, want)
		}
	}
	for _, e := range []api.Errno{api.OK, api.ErrArg, api.ErrForm, api.ErrFull} {
		if seen[e] < 1000 {
			t.Error(e, seen)
		}
	}
}

func TestFindByHand(t *testing.T) {
	p := three()
	for _, id := range numbers {
		r, is := rule.Find(p, id)
		want := map[int]rule.Rule{2: p.Rules[0], 5: p.Rules[1], 24: p.Rules[2]}[id]
		if is != (want.New > 0) || tell(prog(0, 0, r)) != tell(prog(0, 0, want)) {
			t.Error(id, r, is)
		}
		if !is && (r.New != 0 || r.Old != 0 || len(r.Exprs) != 0) {
			t.Error(id, r)
		}
	}
	if r, is := rule.Find(rule.Program{}, 0); is || len(r.Exprs) != 0 {
		t.Error(r)
	}
}

// TestOfAnyProgram asks programs that aren't well formed too.
func TestOfAnyProgram(t *testing.T) {
	odd := prog(-5, maxInt,
		made(7, 3, nil, twice()), made(-1, -1), made(7, 4), made(0, 0, times(9, nil)...), made(minInt, 3), made(3, maxInt), made(300, 0), made(2, 3, long(70)))
	if r, is := rule.Find(odd, 7); !is || r.Old != 3 || len(r.Exprs) != 2 || len(r.Exprs[0]) != 0 || !slices.Equal(r.Exprs[1], twice()) {
		t.Error(r, is)
	}
	for i, id := range []int{-1, 0, minInt, 3, 300, 2} {
		r, is := rule.Find(odd, id)
		want := odd.Rules[[]int{1, 3, 4, 5, 6, 7}[i]]
		if !is || tell(prog(0, 0, r)) != tell(prog(0, 0, want)) {
			t.Error(id, r, is)
		}
	}
	for _, x := range []struct {
		old  int
		want []int
	}{
		{3, []int{7, minInt, 2}}, {4, []int{7}}, {-1, []int{-1}}, {0, nil}, {maxInt, []int{3}}, {7, nil}, {minInt, nil}, {1, nil},
	} {
		if got := rule.From(odd, x.old); !slices.Equal(got, x.want) {
			t.Error(x.old, got)
		}
	}
}

func TestFromByHand(t *testing.T) {
	p := prog(1, 2, made(1, 9), fresh(2), made(3, 4, twice()), made(8, 9), fresh(9), made(24, 9))
	for _, old := range numbers {
		want := map[int][]int{9: {1, 8, 24}, 4: {3}}[old]
		if got := rule.From(p, old); !slices.Equal(got, want) {
			t.Error(old, got)
		}
	}
	if got := rule.From(rule.Program{}, 1); len(got) != 0 {
		t.Error(got)
	}
}

func TestManyFinds(t *testing.T) {
	dice := rand.New(rand.NewPCG(2, 12))
	found, several := 0, 0
	for range 20000 {
		p := someProgram(dice)
		for id := -2; id < 28; id++ {
			want, has, from := rule.Rule{}, false, []int{}
			for i := range p.Rules {
				// Backwards, so that the first one stays.
				if r := p.Rules[len(p.Rules)-1-i]; r.New == id {
					want, has = r, true
				}
				if p.Rules[i].Old == id && id != 0 {
					from = append(from, p.Rules[i].New)
				}
			}
			if r, is := rule.Find(p, id); is != has || tell(prog(0, 0, r)) != tell(prog(0, 0, want)) {
				t.Fatal(tell(p), id, r, is)
			}
			if got := rule.From(p, id); !slices.Equal(got, from) {
				t.Fatal(tell(p), id, got)
			}
			if has {
				found++
			}
			if len(from) > 1 {
				several++
			}
		}
	}
	if found < 1000 || several < 1000 {
		t.Error(found, several)
	}
}

// unlike are programs that differ in one thing each.
func unlike() []rule.Program {
	list := []rule.Program{three(), {}, prog(7, 258)}
	change := func(f func(p *rule.Program)) {
		p := three()
		f(&p)
		list = append(list, p)
	}
	change(func(p *rule.Program) { p.From = 8 })
	change(func(p *rule.Program) { p.From = 7 + 256 })
	change(func(p *rule.Program) { p.From = 7 + 1<<24 })
	change(func(p *rule.Program) { p.To = 259 })
	change(func(p *rule.Program) { p.To = 2 })
	change(func(p *rule.Program) { p.From, p.To = p.To, p.From })
	change(func(p *rule.Program) { p.Rules = p.Rules[:2] })
	change(func(p *rule.Program) { p.Rules = p.Rules[1:] })
	change(func(p *rule.Program) { p.Rules = append(p.Rules[:1:1], p.Rules[2]) })
	change(func(p *rule.Program) { p.Rules[0].New = 3 })
	change(func(p *rule.Program) { p.Rules[2].New = 23 })
	change(func(p *rule.Program) { p.Rules[0].Old = 2 })
	change(func(p *rule.Program) { p.Rules[1].Old = 1 })
	change(func(p *rule.Program) { p.Rules[2].Old = 0 })
	change(func(p *rule.Program) { p.Rules[0].Exprs = nil })
	change(func(p *rule.Program) { p.Rules[0].Exprs = p.Rules[0].Exprs[:1] })
	change(func(p *rule.Program) { p.Rules[0].Exprs = p.Rules[0].Exprs[1:] })
	change(func(p *rule.Program) { slices.Reverse(p.Rules[0].Exprs) })
	change(func(p *rule.Program) { p.Rules[2].Exprs = times(1, twice()) })
	change(func(p *rule.Program) { p.Rules[0].Exprs, p.Rules[2].Exprs = nil, p.Rules[0].Exprs })
	change(func(p *rule.Program) { p.Rules[0].Exprs = append(p.Rules[0].Exprs, code(here(1))) })
	change(func(p *rule.Program) { p.Rules[0].Exprs[0][0].Op = expr.Here })
	change(func(p *rule.Program) { p.Rules[0].Exprs[0][0].A = 1 })
	change(func(p *rule.Program) { p.Rules[0].Exprs[0][0].B = 1 })
	change(func(p *rule.Program) { p.Rules[0].Exprs[0][1].K = wide.Of(-2) })
	change(func(p *rule.Program) { p.Rules[0].Exprs[0][1].K.Lo = 3 })
	change(func(p *rule.Program) { p.Rules[0].Exprs[0][1].K.Hi = 1 })
	change(func(p *rule.Program) { p.Rules[0].Exprs[0][2].Op = expr.Add })
	change(func(p *rule.Program) { p.Rules[0].Exprs[0] = append(p.Rules[0].Exprs[0], op(expr.Neg)) })
	change(func(p *rule.Program) { p.Rules[0].Exprs[1] = code(here(2)) })
	return list
}

// unlikeAndWrong adds some that aren't well formed.
func unlikeAndWrong() []rule.Program {
	list := unlike()
	change := func(f func(p *rule.Program)) {
		p := three()
		f(&p)
		list = append(list, p)
	}
	change(func(p *rule.Program) { p.From = -7 })
	change(func(p *rule.Program) { p.From = 7 + 1<<32 })
	change(func(p *rule.Program) { p.Rules[0], p.Rules[2] = p.Rules[2], p.Rules[0] })
	change(func(p *rule.Program) { p.Rules[0].New = 2 + 256 })
	change(func(p *rule.Program) { p.Rules[0].Old = -1 })
	change(func(p *rule.Program) { p.Rules[1].Exprs = times(1, nil) })
	change(func(p *rule.Program) { p.Rules[1].Exprs = times(2, nil) })
	change(func(p *rule.Program) { p.Rules[2].Exprs = times(1, nil) })
	change(func(p *rule.Program) { p.Rules[0].Exprs[0] = nil })
	change(func(p *rule.Program) { p.Rules[0].Exprs[0] = p.Rules[0].Exprs[0][:2] })
	change(func(p *rule.Program) { p.Rules[0].Exprs[0][0].K = wide.Of(1) })
	change(func(p *rule.Program) { p.Rules[0].Exprs[0][1].A = 1 })
	change(func(p *rule.Program) { p.Rules[0].Exprs[0][1].B = 1 })
	change(func(p *rule.Program) { p.Rules[0].Exprs[0][0].K.Neg = true })
	change(func(p *rule.Program) { p.Rules = append(p.Rules, fresh(0)) })
	// Where one formula ends, and the next one begins.
	change(func(p *rule.Program) { p.Rules[0].Exprs = times(1, slices.Concat(twice(), code(here(1)))) })
	change(func(p *rule.Program) {
		p.Rules[0].Exprs = [][]expr.Ins{twice()[:2], append(twice()[2:], here(1))}
	})
	return list
}

func TestSame(t *testing.T) {
	for i, p := range unlikeAndWrong() {
		for j, o := range unlikeAndWrong() {
			if is := rule.Same(p, o); is != (i == j) {
				t.Error(i, j, is)
			}
		}
	}
	for i, x := range [][2]rule.Program{
		{{}, {Rules: []rule.Rule{}}},
		{prog(1, 2, made(1, 1)), prog(1, 2, rule.Rule{New: 1, Old: 1, Exprs: [][]expr.Ins{}})},
		{prog(1, 2, made(1, 1, nil)), prog(1, 2, made(1, 1, code()))},
	} {
		if !rule.Same(x[0], x[1]) || !rule.Same(x[1], x[0]) {
			t.Error(i)
		}
	}
}

func TestManySame(t *testing.T) {
	dice := rand.New(rand.NewPCG(3, 12))
	list, told := []rule.Program{}, []string{}
	for range 400 {
		p := someProgram(dice)
		list, told = append(list, p), append(told, tell(p))
	}
	alike := 0
	for i, p := range list {
		for j, o := range list {
			is := rule.Same(p, o)
			if is != (told[i] == told[j]) {
				t.Fatal(told[i], told[j], is)
			}
			if is {
				alike++
			}
		}
	}
	if alike <= len(list) {
		t.Error(alike)
	}
}

// P12.3

func TestLinesByHand(t *testing.T) {
	for i, x := range []struct {
		p    rule.Program
		want []string
	}{
		{prog(1, 2), nil},
		{prog(1, 2, made(2, 1, twice())), []string{"2 from 1 mul(f0.0,2)"}},
		{prog(1, 2, fresh(1)), []string{"fresh 1"}},
		{prog(1, 2, fresh(24)), []string{"fresh 24"}},
		{prog(1, 2, made(24, 10)), []string{"24 from 10"}},
		{three(), []string{"2 from 1 mul(f0.0,2) f1@", "fresh 5", "24 from 24"}},
		{prog(2, 1, made(1, 3, code(num(-7)), code(op(expr.Place)), code(num(0))), made(2, 3)), []string{"1 from 3 -7 @ 0", "2 from 3"}},
	} {
		if got := rule.Lines(x.p); !slices.Equal(got, x.want) {
			t.Errorf("%d %q", i, got)
		}
	}
	if got := rule.Lines(greatest()); len(got) != 24 || joined(got) != joined(lines(greatest())) {
		t.Error(got)
	}
}

func TestLinesOfIds(t *testing.T) {
	for id := 1; id <= 24; id++ {
		for old := range 25 {
			want := strconv.Itoa(id) + " from " + strconv.Itoa(old)
			if old == 0 {
				want = "fresh " + strconv.Itoa(id)
			}
			if got := rule.Lines(prog(1, 2, made(id, old))); len(got) != 1 || got[0] != want {
				t.Error(id, old, got)
			}
		}
	}
}

func TestLinesOfWrongPrograms(t *testing.T) {
	for i, x := range wrongRules() {
		if got := rule.Lines(prog(1, 2, fresh(2), x.r)); len(got) != 0 {
			t.Error(i, got)
		}
	}
	for _, p := range []rule.Program{{}, prog(0, 1, fresh(1)), prog(1, 0, fresh(1)), prog(1, 1<<30+1, fresh(1))} {
		if got := rule.Lines(p); len(got) != 0 {
			t.Error(got)
		}
	}
}

func TestManyLines(t *testing.T) {
	dice := rand.New(rand.NewPCG(4, 12))
	told := 0
	for range 30000 {
		p := someProgram(dice)
		got := rule.Lines(p)
		if !slices.Equal(got, lines(p)) {
			t.Fatal(tell(p), got)
		}
		told += len(got)
	}
	if told < 10000 {
		t.Error(told)
	}
}

// Rule 3 of DOC.md

func TestProgramsStay(t *testing.T) {
	dice := rand.New(rand.NewPCG(5, 12))
	list := append(unlikeAndWrong(), greatest())
	for range 3000 {
		list = append(list, someProgram(dice))
	}
	for _, p := range list {
		given, stays := kept(p)
		rule.Check(given)
		rule.Encode(given)
		rule.Lines(given)
		rule.Same(given, p)
		for id := -1; id < 26; id++ {
			r, _ := rule.Find(given, id)
			spoil(r)
			from := rule.From(given, id)
			for i := range from[:cap(from)] {
				from[:cap(from)][i] = 55
			}
		}
		if !stays() || !same(given, p) {
			t.Fatal(tell(p), tell(given))
		}
	}
}

func TestFoundRulesGoApart(t *testing.T) {
	// All formulas of the given rule are one and the same.
	c := twice()
	p := prog(1, 2, made(1, 1, c, c, c[:3:3], c))
	first, _ := rule.Find(p, 1)
	second, is := rule.Find(p, 1)
	if !is {
		t.Fatal()
	}
	for i := range first.Exprs {
		_ = append(first.Exprs[i], op(55))
	}
	first.Exprs[1][0] = op(54)
	if !slices.Equal(first.Exprs[0], twice()) || !slices.Equal(first.Exprs[2], twice()) || !slices.Equal(first.Exprs[3], twice()) {
		t.Error(first)
	}
	spoil(first)
	if !same(prog(1, 2, second), prog(1, 2, made(1, 1, times(4, twice())...))) || !slices.Equal(c, twice()) {
		t.Error(second, c)
	}
}
