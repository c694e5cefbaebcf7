package table_test

import (
	"maps"
	"math/big"
	"math/rand/v2"
	"slices"
	"testing"

	"retrofit/api"
	"retrofit/sig"
	"retrofit/table"
	"retrofit/wide"
)

// A second reading of the chapter: a sheet of lines, with values as they were
// handed in, and rows laid byte by byte; and the schemas and parts that the
// tests are made of.

const (
	maxInt  = 1<<63 - 1
	minInt  = -1 << 63
	maxWord = 1<<64 - 1
)

func of(name string, k api.Kind, n int) api.Field { return api.Field{Name: name, Kind: k, Count: n} }

func comp(id int, name string, list ...api.Field) api.Comp {
	return api.Comp{Id: id, Name: name, Fields: list}
}

// five has components of unlike rows: with gaps, without bytes, of one byte, of
// the most bytes, and of references.
func five() api.Schema {
	return api.Schema{Version: 3, Comps: []api.Comp{
		comp(1, "pos", of("team", api.U8, 1), of("x", api.I32, 2), of("up", api.Bool, 1)),
		comp(4, "tag"),
		comp(7, "hp", of("n", api.I8, 1)),
		comp(9, "big", of("a", api.U64, 8), of("b", api.I64, 8), of("c", api.U32, 8), of("d", api.I16, 8), of("e", api.U16, 8), of("f", api.U64, 8)),
		comp(24, "boss", of("who", api.Ref, 1), of("n", api.U16, 1)),
	}}
}

// whole has all components that there can be, each of 256 bytes.
func whole() api.Schema {
	s := api.Schema{Version: 1}
	for id := 1; id <= 24; id++ {
		s.Comps = append(s.Comps, comp(id, "c"+string(rune('a'+id-1)), of("a", api.U64, 8), of("b", api.U64, 8), of("c", api.U64, 8), of("d", api.U64, 8)))
	}
	return s
}

// setOf has just these bits, whether they can be or not.
func setOf(ids ...int) sig.Sig {
	s := sig.Sig(0)
	for _, id := range ids {
		s |= 1 << id
	}
	return s
}

func part(id int, list ...int) api.Part {
	p := api.Part{Comp: id}
	for _, n := range list {
		p.Val = append(p.Val, wide.Of(n))
	}
	return p
}

func bigOf(x api.Int) *big.Int {
	b := new(big.Int).SetUint64(x.Hi)
	b.Lsh(b, 64).Add(b, new(big.Int).SetUint64(x.Lo))
	if x.Neg {
		b.Neg(b)
	}
	return b
}

func ofBig(b *big.Int) api.Int {
	size := new(big.Int).Abs(b)
	low := new(big.Int).And(size, new(big.Int).SetUint64(maxWord))
	return api.Int{Neg: b.Sign() < 0, Hi: size.Rsh(size, 64).Uint64(), Lo: low.Uint64()}
}

// bytesOf are how many a kind has.
func bytesOf(k api.Kind) int { return []int{0, 1, 1, 2, 4, 8, 1, 2, 4, 8, 8}[k] }

// bounds are a kind's.
func bounds(k api.Kind) (*big.Int, *big.Int) {
	power := func(n int) *big.Int { return new(big.Int).Lsh(big.NewInt(1), uint(n)) }
	less := func(b *big.Int) *big.Int { return new(big.Int).Sub(b, big.NewInt(1)) }
	bits := 8 * bytesOf(k)
	switch {
	case k == 1:
		return big.NewInt(0), big.NewInt(1)
	case k <= 5:
		return new(big.Int).Neg(power(bits - 1)), less(power(bits - 1))
	}
	return big.NewInt(0), less(power(bits))
}

// fits: a number in form, within a kind's bounds.
func fits(k api.Kind, x api.Int) bool {
	from, to := bounds(k)
	b := bigOf(x)
	return b.Cmp(from) >= 0 && b.Cmp(to) <= 0 && ofBig(b) == x
}

// elems are all elements' kinds, in order.
func elems(list []api.Field) []api.Kind {
	all := []api.Kind{}
	for _, f := range list {
		for range f.Count {
			all = append(all, f.Kind)
		}
	}
	return all
}

// rowOf lays a value byte by byte.
func rowOf(list []api.Field, val []api.Int) string {
	row, widest, i := []byte{}, 1, 0
	for _, f := range list {
		size := bytesOf(f.Kind)
		widest = max(widest, size)
		for len(row)%size != 0 {
			row = append(row, 0)
		}
		for range f.Count {
			lo := val[i].Lo
			if val[i].Neg {
				lo = -lo
			}
			for range size {
				row = append(row, byte(lo))
				lo /= 256
			}
			i++
		}
	}
	for len(row)%widest != 0 {
		row = append(row, 0)
	}
	return string(row)
}

// line is a row: whose it is, and what they have.
type line struct {
	e   api.Ent
	val map[int][]api.Int
}

func (l line) clone() line { return line{l.e, maps.Clone(l.val)} }

// sheet is a table in which nothing is packed.
type sheet struct {
	fields     map[int][]api.Field
	ids        []int
	most, kept int
	lines      []line
}

func newSheet(s api.Schema, most int, ids ...int) *sheet {
	x := &sheet{fields: map[int][]api.Field{}, ids: ids, most: most}
	for _, c := range s.Comps {
		if slices.Contains(ids, c.Id) {
			x.fields[c.Id] = slices.Clone(c.Fields)
		}
	}
	return x
}

func (x *sheet) clone() *sheet {
	y := *x
	y.lines = nil
	for _, l := range x.lines {
		y.lines = append(y.lines, l.clone())
	}
	return &y
}

func (x *sheet) room() int { return x.most - len(x.lines) - x.kept }

func (x *sheet) keep() api.Errno {
	if x.room() < 1 {
		return api.ErrFull
	}
	x.kept++
	return api.OK
}

func (x *sheet) yield() api.Errno {
	if x.kept < 1 {
		return api.ErrNone
	}
	x.kept--
	return api.OK
}

// judge is what is wrong with a value of a component of the set.
func (x *sheet) judge(p api.Part) api.Errno {
	kinds := elems(x.fields[p.Comp])
	if len(kinds) != len(p.Val) {
		return api.ErrForm
	}
	for i, k := range kinds {
		if !fits(k, p.Val[i]) {
			return api.ErrRange
		}
	}
	return api.OK
}

func (x *sheet) add(e api.Ent, parts []api.Part) (int, api.Errno) {
	if e == 0 {
		return 0, api.ErrArg
	}
	comps := []int{}
	for _, p := range parts {
		comps = append(comps, p.Comp)
	}
	slices.Sort(comps)
	if !slices.Equal(comps, x.ids) {
		return 0, api.ErrForm
	}
	l := line{e, map[int][]api.Int{}}
	for _, p := range parts {
		if err := x.judge(p); err != api.OK {
			return 0, err
		}
		l.val[p.Comp] = slices.Clone(p.Val)
	}
	if x.room() < 1 {
		return 0, api.ErrFull
	}
	x.lines = append(x.lines, l)
	return len(x.lines) - 1, api.OK
}

func (x *sheet) drop(row int) (api.Ent, api.Errno) {
	n := len(x.lines)
	if row < 0 || row >= n {
		return 0, api.ErrRange
	}
	last := x.lines[n-1]
	x.lines = x.lines[:n-1]
	if row == n-1 {
		return 0, api.OK
	}
	x.lines[row] = last
	return last.e, api.OK
}

func (x *sheet) set(row int, p api.Part) api.Errno {
	switch {
	case row < 0 || row >= len(x.lines):
		return api.ErrRange
	case !slices.Contains(x.ids, p.Comp):
		return api.ErrNone
	}
	if err := x.judge(p); err != api.OK {
		return err
	}
	x.lines[row].val[p.Comp] = slices.Clone(p.Val)
	return api.OK
}

// noRows are numbers that no row of n has.
func noRows(n int) []int {
	return []int{-1, -2, -16, n, n + 1, n + 15, n + 16, 256, 1 << 16, 1 << 32, 1<<32 + 1, maxInt, minInt, minInt + 1}
}

// notIn are Ids that a set hasn't, and numbers that are no Ids.
func notIn(ids []int) []int {
	list := []int{0, -1, -4, 25, 31, 32, 33, 36, 63, 64, 65, 68, 1<<32 + 1, maxInt, minInt, minInt + 4}
	for id := 1; id <= 24; id++ {
		if !slices.Contains(ids, id) {
			list = append(list, id)
		}
	}
	return list
}

// agree fails, unless a table answers all that the sheet has.
func agree(t testing.TB, tab *table.Table, x *sheet) {
	t.Helper()
	if tab.Sig() != setOf(x.ids...) || tab.Len() != len(x.lines) || tab.Kept() != x.kept || tab.Room() != x.room() {
		t.Fatal(tab.Sig().Text(), tab.Len(), tab.Kept(), tab.Room(), "not", x.ids, len(x.lines), x.kept, x.room())
	}
	ents := tab.Ents()
	if len(ents) != len(x.lines) {
		t.Fatal(ents)
	}
	for row, l := range x.lines {
		if ents[row] != l.e || tab.Ent(row) != l.e {
			t.Fatal(row, ents[row], tab.Ent(row), l.e)
		}
		hasLine(t, tab, x, row)
	}
}

// hasLine fails, unless a row has all that a line has, asked in each way.
func hasLine(t testing.TB, tab *table.Table, x *sheet, row int) {
	t.Helper()
	parts, e := tab.Parts(row)
	if e != api.OK || len(parts) != len(x.ids) {
		t.Fatal(row, parts, e)
	}
	for i, id := range x.ids {
		want := x.lines[row].val[id]
		if parts[i].Comp != id || !slices.Equal(parts[i].Val, want) {
			t.Fatal(row, id, parts[i], want)
		}
		if val, e := tab.Get(row, id); e != api.OK || !slices.Equal(val, want) {
			t.Fatal(row, id, val, e, want)
		}
		if bytes, e := tab.Bytes(row, id); e != api.OK || bytes != rowOf(x.fields[id], want) {
			t.Fatal(row, id, bytes, e, want)
		}
	}
}

// agreeBeyond asks for rows, and components, that there aren't, too.
func agreeBeyond(t testing.TB, tab *table.Table, x *sheet) {
	t.Helper()
	for _, row := range noRows(len(x.lines)) {
		for _, id := range append(notIn(x.ids), x.ids...) {
			isWrong(t, tab, row, id, api.ErrRange)
		}
		if tab.Ent(row) != 0 {
			t.Fatal(row, tab.Ent(row))
		}
		if parts, e := tab.Parts(row); e != api.ErrRange || len(parts) != 0 {
			t.Fatal(row, parts, e)
		}
		if who, e := tab.Drop(row); e != api.ErrRange || who != 0 {
			t.Fatal(row, who, e)
		}
	}
	for row := range x.lines {
		for _, id := range notIn(x.ids) {
			isWrong(t, tab, row, id, api.ErrNone)
		}
	}
	agree(t, tab, x)
}

// isWrong fails, unless all that is asked of a row and a component is that
// error.
func isWrong(t testing.TB, tab *table.Table, row, id int, want api.Errno) {
	t.Helper()
	if val, e := tab.Get(row, id); e != want || len(val) != 0 {
		t.Fatal(row, id, val, e)
	}
	if bytes, e := tab.Bytes(row, id); e != want || bytes != "" {
		t.Fatal(row, id, bytes, e)
	}
	for _, p := range []api.Part{part(id), part(id, 0), part(id, 0, 0, 0, 0), part(id, maxInt)} {
		if e := tab.Set(row, p); e != want {
			t.Fatal(row, p, e)
		}
	}
}

// someNumber fits a kind; often it is one of its bounds.
func someNumber(dice *rand.Rand, k api.Kind) api.Int {
	from, to := bounds(k)
	switch dice.IntN(4) {
	case 0:
		return ofBig(from)
	case 1:
		return ofBig(to)
	}
	many := new(big.Int).Sub(to, from)
	some := new(big.Int).SetUint64(dice.Uint64())
	some.Mod(some, many.Add(many, big.NewInt(1)))
	return ofBig(some.Add(some, from))
}

func someValue(dice *rand.Rand, list []api.Field) []api.Int {
	val := []api.Int{}
	for _, k := range elems(list) {
		val = append(val, someNumber(dice, k))
	}
	return val
}

// someParts are right ones of a sheet's components, in some order.
func someParts(dice *rand.Rand, x *sheet) []api.Part {
	parts := []api.Part{}
	for _, i := range dice.Perm(len(x.ids)) {
		parts = append(parts, api.Part{Comp: x.ids[i], Val: someValue(dice, x.fields[x.ids[i]])})
	}
	return parts
}

// wrongNumber doesn't fit a kind.
func wrongNumber(dice *rand.Rand, k api.Kind) api.Int {
	from, to := bounds(k)
	one := big.NewInt(1)
	list := []api.Int{
		ofBig(new(big.Int).Sub(from, one)),
		ofBig(new(big.Int).Add(to, one)),
		{Neg: true},
		{Neg: true, Hi: 1<<63 - 1, Lo: maxWord},
		{Hi: 1, Lo: 0},
		{Hi: 1 << 63},
	}
	return list[dice.IntN(len(list))]
}

// spoil makes a value wrong: of another length, or with a number that doesn't
// fit.
func spoil(dice *rand.Rand, list []api.Field, val []api.Int) []api.Int {
	val = slices.Clone(val)
	switch n := len(val); {
	case n == 0 || dice.IntN(3) == 0:
		return append(val, api.Int{})
	case dice.IntN(2) == 0:
		return val[:n-1]
	default:
		i := dice.IntN(n)
		val[i] = wrongNumber(dice, elems(list)[i])
		return val
	}
}

// twin is a table, and what it has to be.
type twin struct {
	tab *table.Table
	x   *sheet
}

func newTwin(t testing.TB, s api.Schema, most int, ids ...int) twin {
	t.Helper()
	w := twin{table.New(s, setOf(ids...), most), newSheet(s, most, ids...)}
	if w.tab == nil {
		t.Fatal(most, ids)
	}
	return w
}

func (w twin) clone() twin { return twin{w.tab.Clone(), w.x.clone()} }

// Each of these does something to both, and fails, unless both answer the same.

func (w twin) add(t testing.TB, e api.Ent, parts []api.Part) api.Errno {
	t.Helper()
	got, err := w.tab.Add(e, parts)
	if want, wantErr := w.x.add(e, parts); got != want || err != wantErr {
		t.Fatal("Add", e, parts, got, err, "not", want, wantErr)
	}
	return err
}

func (w twin) drop(t testing.TB, row int) api.Errno {
	t.Helper()
	got, err := w.tab.Drop(row)
	if want, wantErr := w.x.drop(row); got != want || err != wantErr {
		t.Fatal("Drop", row, got, err, "not", want, wantErr)
	}
	return err
}

func (w twin) set(t testing.TB, row int, p api.Part) api.Errno {
	t.Helper()
	err := w.tab.Set(row, p)
	if want := w.x.set(row, p); err != want {
		t.Fatal("Set", row, p, err, "not", want)
	}
	return err
}

func (w twin) keep(t testing.TB) api.Errno {
	t.Helper()
	err := w.tab.Keep()
	if want := w.x.keep(); err != want {
		t.Fatal("Keep", err, "not", want)
	}
	return err
}

func (w twin) yield(t testing.TB) api.Errno {
	t.Helper()
	err := w.tab.Yield()
	if want := w.x.yield(); err != want {
		t.Fatal("Yield", err, "not", want)
	}
	return err
}

// filled adds so many rows of some values.
func (w twin) filled(t testing.TB, dice *rand.Rand, n int) twin {
	t.Helper()
	for i := range n {
		if e := w.add(t, api.Ent(1000+i), someParts(dice, w.x)); e != api.OK {
			t.Fatal(i, e)
		}
	}
	return w
}
