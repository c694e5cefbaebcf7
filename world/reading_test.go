package world_test

import (
	"maps"
	"slices"
	"strconv"
	"strings"
	"testing"

	"retrofit/api"
	"retrofit/entity"
	"retrofit/schema"
	"retrofit/sig"
	"retrofit/wide"
	"retrofit/world"
)

// A second reading of the chapter: a book with a leaf for each who lives, on
// which stands all that they have; there are no rows, and a table is the text of
// its set. And the schemas, the caps and the parts that the tests are made of.

const (
	maxInt = 1<<63 - 1
	minInt = -1 << 63
)

func of(name string, k api.Kind, n int) api.Field { return api.Field{Name: name, Kind: k, Count: n} }

func comp(id int, name string, list ...api.Field) api.Comp {
	return api.Comp{Id: id, Name: name, Fields: list}
}

// five has components with and without fields, with gaps in their rows, of the
// least and the greatest Id too.
func five() api.Schema {
	return api.Schema{Version: 3, Comps: []api.Comp{
		comp(1, "pos", of("team", api.U8, 1), of("x", api.I32, 2), of("up", api.Bool, 1)),
		comp(4, "tag"),
		comp(7, "hp", of("n", api.I8, 1)),
		comp(9, "mark"),
		comp(24, "boss", of("who", api.Ref, 1), of("n", api.U16, 3)),
	}}
}

// other has some components of the same Ids, but unlike fields.
func other() api.Schema {
	return api.Schema{Version: 9, Comps: []api.Comp{
		comp(1, "pos", of("x", api.I64, 1)),
		comp(4, "hp", of("n", api.U16, 2)),
		comp(12, "new"),
		comp(24, "boss"),
	}}
}

// whole has all components that there can be.
func whole() api.Schema {
	s := api.Schema{Version: 1}
	for id := 1; id <= 24; id++ {
		s.Comps = append(s.Comps, comp(id, "c"+strconv.Itoa(id), of("n", api.U8, 1)))
	}
	return s
}

func capsOf(ents, rows, archs int) api.Caps {
	return api.Caps{Ents: ents, Rows: rows, Archs: archs, Gens: api.MaxGens}
}

// setOf has just these bits, whether they can be or not.
func setOf(ids ...int) sig.Sig {
	s := sig.Sig(0)
	for _, id := range ids {
		s |= 1 << id
	}
	return s
}

func part(id int, list ...int) api.Part {
	p := api.Part{Comp: id}
	for _, n := range list {
		p.Val = append(p.Val, wide.Of(n))
	}
	return p
}

func idsOf(s api.Schema) []int {
	ids := []int{}
	for _, c := range s.Comps {
		ids = append(ids, c.Id)
	}
	return ids
}

// notIn are numbers that aren't among these Ids, of other Ids and of none;
// shifts by some of them would come round to one.
func notIn(ids []int) []int {
	list := []int{0, -1, -4, -31, 25, 31, 32, 33, 36, 63, 64, 65, 68, 256 + 1, 1<<32 + 1, 1<<32 + 4, maxInt, minInt, minInt + 4}
	for id := 1; id <= 24; id++ {
		if !slices.Contains(ids, id) {
			list = append(list, id)
		}
	}
	return list
}

// leaf is one who lives.
type leaf struct {
	e       api.Ent
	has     map[int][]api.Int // while they are awaited the values are nothing
	awaited bool
}

func (l *leaf) ids() []int { return slices.Sorted(maps.Keys(l.has)) }

func (l *leaf) text() string { return wrote(l.ids()) }

func wrote(ids []int) string {
	words := []string{}
	for _, id := range ids {
		words = append(words, strconv.Itoa(id))
	}
	return strings.Join(words, ",")
}

type book struct {
	s      api.Schema
	c      api.Caps
	ended  map[int]int // how many ended with an id
	leaves map[int]*leaf
	tables []string
	past   []api.Ent // who ended
}

func newBook(s api.Schema, c api.Caps) *book {
	return &book{s: schema.Clone(s), c: c, ended: map[int]int{}, leaves: map[int]*leaf{}}
}

func (b *book) clone() *book {
	c := *b
	c.ended = maps.Clone(b.ended)
	c.tables = slices.Clone(b.tables)
	c.past = slices.Clone(b.past)
	c.leaves = map[int]*leaf{}
	for id, l := range b.leaves {
		c.leaves[id] = &leaf{l.e, maps.Clone(l.has), l.awaited}
	}
	return &c
}

// live is who does, by rising ids.
func (b *book) live() []*leaf {
	list := []*leaf{}
	for _, id := range slices.Sorted(maps.Keys(b.leaves)) {
		list = append(list, b.leaves[id])
	}
	return list
}

// find is the leaf of one who lives; nil: they don't.
func (b *book) find(e api.Ent) *leaf {
	for _, l := range b.leaves {
		if l.e == e {
			return l
		}
	}
	return nil
}

// next is the handle of the least id that is free; 0: there is none.
func (b *book) next() api.Ent {
	for id := 1; id <= b.c.Ents; id++ {
		if b.leaves[id] == nil && b.ended[id] < b.c.Gens {
			return api.Ent(b.ended[id]+1)*(1<<32) + api.Ent(id)
		}
	}
	return 0
}

func (b *book) free() int {
	n := 0
	for id := 1; id <= b.c.Ents; id++ {
		if b.leaves[id] == nil && b.ended[id] < b.c.Gens {
			n++
		}
	}
	return n
}

func (b *book) count(text string) int {
	n := 0
	for _, l := range b.leaves {
		if l.text() == text {
			n++
		}
	}
	return n
}

// admit makes the table of a set, if there is none; false: there is no room for
// it, or in it for one more.
func (b *book) admit(text string) bool {
	if slices.Contains(b.tables, text) {
		return b.count(text) < b.c.Rows
	}
	if len(b.tables) >= b.c.Archs {
		return false
	}
	b.tables = append(b.tables, text)
	return true
}

func (b *book) spawn(parts []api.Part) (api.Ent, api.Errno) {
	if err := schema.CheckParts(b.s, parts); err != api.OK {
		return 0, err
	}
	l := &leaf{e: b.next(), has: map[int][]api.Int{}}
	for _, p := range parts {
		l.has[p.Comp] = slices.Clone(p.Val)
	}
	if l.e == 0 || !b.admit(l.text()) {
		return 0, api.ErrFull
	}
	b.leaves[int(l.e%(1<<32))] = l
	return l.e, api.OK
}

func (b *book) despawn(e api.Ent) api.Errno {
	if b.find(e) == nil {
		return api.ErrStale
	}
	id := int(e % (1 << 32))
	delete(b.leaves, id)
	b.ended[id]++
	b.past = append(b.past, e)
	return api.OK
}

// turn is to have another set.
func (b *book) turn(l *leaf, has map[int][]api.Int) api.Errno {
	if !b.admit(wrote(slices.Sorted(maps.Keys(has)))) {
		return api.ErrFull
	}
	l.has = has
	return api.OK
}

func (b *book) add(e api.Ent, p api.Part) api.Errno {
	l := b.find(e)
	if l == nil {
		return api.ErrStale
	}
	if err := schema.CheckPart(b.s, p); err != api.OK {
		return err
	}
	if _, is := l.has[p.Comp]; is || l.awaited {
		return api.ErrState
	}
	has := maps.Clone(l.has)
	has[p.Comp] = slices.Clone(p.Val)
	return b.turn(l, has)
}

func (b *book) remove(e api.Ent, comp int) api.Errno {
	l := b.find(e)
	if l == nil {
		return api.ErrStale
	}
	if l.awaited {
		return api.ErrState
	}
	if _, is := l.has[comp]; !is {
		return api.ErrNone
	}
	has := maps.Clone(l.has)
	delete(has, comp)
	return b.turn(l, has)
}

func (b *book) set(e api.Ent, p api.Part) api.Errno {
	l := b.find(e)
	if l == nil {
		return api.ErrStale
	}
	if err := schema.CheckPart(b.s, p); err != api.OK {
		return err
	}
	if l.awaited {
		return api.ErrState
	}
	if _, is := l.has[p.Comp]; !is {
		return api.ErrNone
	}
	l.has[p.Comp] = slices.Clone(p.Val)
	return api.OK
}

func (b *book) place(e api.Ent, parts []api.Part) api.Errno {
	l := b.find(e)
	if l == nil {
		return api.ErrStale
	}
	if !l.awaited {
		return api.ErrNone
	}
	ids := []int{}
	for _, p := range parts {
		ids = append(ids, p.Comp)
	}
	slices.Sort(ids)
	if !slices.Equal(ids, l.ids()) {
		return api.ErrForm
	}
	if err := schema.CheckParts(b.s, parts); err != api.OK {
		return err
	}
	for _, p := range parts {
		l.has[p.Comp] = slices.Clone(p.Val)
	}
	l.awaited = false
	return api.OK
}

// open makes the table of a set, if the schema has all of it.
func (b *book) open(set sig.Sig) (string, api.Errno) {
	ids := []int{}
	for bit := range 32 {
		if uint32(set)>>bit%2 == 0 {
			continue
		}
		if !slices.Contains(idsOf(b.s), bit) {
			return "", api.ErrNone
		}
		ids = append(ids, bit)
	}
	text := wrote(ids)
	if slices.Contains(b.tables, text) {
		return text, api.OK
	}
	if len(b.tables) >= b.c.Archs {
		return "", api.ErrFull
	}
	b.tables = append(b.tables, text)
	return text, api.OK
}

func (b *book) heir(s api.Schema, first []sig.Sig, list []world.Await) (*book, api.Errno) {
	if err := schema.Check(s); err != api.OK {
		return nil, err
	}
	ents, live := []api.Ent{}, []api.Ent{}
	for _, a := range list {
		ents = append(ents, a.Ent)
	}
	for _, l := range b.leaves {
		live = append(live, l.e)
	}
	slices.Sort(ents)
	slices.Sort(live)
	if !slices.Equal(ents, live) {
		return nil, api.ErrArg
	}
	h := newBook(s, b.c)
	h.ended = maps.Clone(b.ended)
	h.past = slices.Clone(b.past)
	for _, set := range first {
		if _, err := h.open(set); err != api.OK {
			return nil, err
		}
	}
	for _, a := range list {
		text, err := h.open(a.Sig)
		if err != api.OK {
			return nil, err
		}
		if h.count(text) >= b.c.Rows {
			return nil, api.ErrFull
		}
		l := &leaf{e: a.Ent, has: map[int][]api.Int{}, awaited: true}
		for _, c := range s.Comps {
			if uint32(a.Sig)>>c.Id%2 == 1 {
				l.has[c.Id] = nil
			}
		}
		h.leaves[int(a.Ent%(1<<32))] = l
	}
	return h, api.OK
}

// twin is a world, and what it has to be. The index beside them is worked on by
// layer 15's calls alone.
type twin struct {
	w *world.World
	b *book
	x *entity.Index
}

func newTwin(t testing.TB, s api.Schema, c api.Caps) twin {
	t.Helper()
	w := twin{world.New(s, c), newBook(s, c), entity.New(c.Ents, c.Gens)}
	if w.w == nil {
		t.Fatal(c)
	}
	return w
}

func (w twin) clone(t testing.TB) twin {
	t.Helper()
	c := w.w.Clone()
	if c == nil || c == w.w {
		t.Fatal("itself")
	}
	return twin{c, w.b.clone(), w.x.Clone()}
}

// Each of these does something to both, and fails, unless both answer the same.

func (w twin) spawn(t testing.TB, parts ...api.Part) (api.Ent, api.Errno) {
	t.Helper()
	got, err := w.w.Spawn(parts)
	want, wantErr := w.b.spawn(parts)
	if got != want || err != wantErr {
		t.Fatal("Spawn", parts, got, err, "not", want, wantErr)
	}
	if err == api.OK {
		w.x.Spawn()
	}
	return got, err
}

func (w twin) despawn(t testing.TB, e api.Ent) api.Errno {
	t.Helper()
	err := w.w.Despawn(e)
	if want := w.b.despawn(e); err != want {
		t.Fatal("Despawn", e, err, "not", want)
	}
	w.x.Kill(e)
	return err
}

func (w twin) add(t testing.TB, e api.Ent, p api.Part) api.Errno {
	t.Helper()
	err := w.w.Add(e, p)
	if want := w.b.add(e, p); err != want {
		t.Fatal("Add", e, p, err, "not", want)
	}
	return err
}

func (w twin) remove(t testing.TB, e api.Ent, comp int) api.Errno {
	t.Helper()
	err := w.w.Remove(e, comp)
	if want := w.b.remove(e, comp); err != want {
		t.Fatal("Remove", e, comp, err, "not", want)
	}
	return err
}

func (w twin) set(t testing.TB, e api.Ent, p api.Part) api.Errno {
	t.Helper()
	err := w.w.Set(e, p)
	if want := w.b.set(e, p); err != want {
		t.Fatal("Set", e, p, err, "not", want)
	}
	return err
}

func (w twin) place(t testing.TB, e api.Ent, parts ...api.Part) api.Errno {
	t.Helper()
	err := w.w.Place(e, parts)
	if want := w.b.place(e, parts); err != want {
		t.Fatal("Place", e, parts, err, "not", want)
	}
	return err
}

func (w twin) heir(t testing.TB, s api.Schema, first []sig.Sig, list []world.Await) (twin, api.Errno) {
	t.Helper()
	got, err := w.w.Heir(s, first, list)
	want, wantErr := w.b.heir(s, first, list)
	if err != wantErr || (got == nil) != (want == nil) || got == w.w {
		t.Fatal("Heir", s, first, list, got != nil, err, "not", want != nil, wantErr)
	}
	return twin{got, want, w.x.Clone()}, err
}

// agree fails, unless a world answers all that the book has.
func agree(t testing.TB, w twin) {
	t.Helper()
	live, awaited := []api.Ent{}, []api.Ent{}
	for _, l := range w.b.live() {
		live = append(live, l.e)
		if l.awaited {
			awaited = append(awaited, l.e)
		}
		hasLeaf(t, w.w, l)
	}
	if got := w.w.Live(); !slices.Equal(got, live) {
		t.Fatal("Live", got, live)
	}
	if got := w.w.Awaited(); !slices.Equal(got, awaited) {
		t.Fatal("Awaited", got, awaited)
	}
	sigs := w.w.Sigs()
	if len(sigs) != len(w.b.tables) {
		t.Fatal("Sigs", sigs, w.b.tables)
	}
	for i, text := range w.b.tables {
		if wrote(sigs[i].Ids()) != text || !sigs[i].Is() {
			t.Fatal("Sigs", i, sigs, w.b.tables)
		}
		if n := w.w.Count(sigs[i]); n != w.b.count(text) {
			t.Fatal("Count", text, n, w.b.count(text))
		}
	}
	x := w.w.Index()
	if !entity.Same(x, w.x) || x.Next() != w.b.next() || x.Free() != w.b.free() || !slices.Equal(x.Live(), live) {
		t.Fatal("Index", x.Next(), x.Free(), x.Live(), "not", w.b.next(), w.b.free(), live)
	}
	if w.w.Caps() != w.b.c || !schema.Same(w.w.Schema(), w.b.s) {
		t.Fatal(w.w.Caps(), w.w.Schema())
	}
}

// hasLeaf fails, unless somebody has all that stands on their leaf, asked in each
// way.
func hasLeaf(t testing.TB, w *world.World, l *leaf) {
	t.Helper()
	ids := l.ids()
	if set, err := w.Sig(l.e); err != api.OK || set != setOf(ids...) {
		t.Fatal("Sig", l.e, set, err, ids)
	}
	parts, err := w.Parts(l.e)
	if l.awaited {
		if err != api.ErrState || len(parts) != 0 {
			t.Fatal("Parts", l.e, parts, err)
		}
		for _, id := range ids {
			if val, err := w.Get(l.e, id); err != api.ErrState || len(val) != 0 {
				t.Fatal("Get", l.e, id, val, err)
			}
		}
		return
	}
	if err != api.OK || len(parts) != len(ids) {
		t.Fatal("Parts", l.e, parts, err, ids)
	}
	for i, id := range ids {
		if parts[i].Comp != id || !slices.Equal(parts[i].Val, l.has[id]) {
			t.Fatal("Parts", l.e, id, parts, l.has[id])
		}
		if val, err := w.Get(l.e, id); err != api.OK || !slices.Equal(val, l.has[id]) {
			t.Fatal("Get", l.e, id, val, err, l.has[id])
		}
	}
}

// agreeBeyond asks for who doesn't live, what somebody hasn't, sets without a
// table, and who has some things and not others, too.
func agreeBeyond(t testing.TB, w twin) {
	t.Helper()
	for _, e := range strangers(w.b) {
		isNobody(t, w.w, e, api.ErrStale)
	}
	for _, l := range w.b.live() {
		for _, id := range notIn(l.ids()) {
			hasNot(t, w, l, id)
		}
	}
	for _, set := range someSets(w.b) {
		if n, want := w.w.Count(set), w.b.count(wrote(bitsOf(set))); n != want {
			t.Fatal("Count", set, n, want)
		}
		for _, none := range []sig.Sig{0, setOf(1), setOf(4, 24), ^set, set, 1 << 31} {
			matches(t, w, set, none)
			matches(t, w, none, set)
		}
	}
	agree(t, w)
}

// matches fails, unless those are told who have all of one set, bit by bit, and
// none of another one; bits that can't be play no part.
func matches(t testing.TB, w twin, all, none sig.Sig) {
	t.Helper()
	want := []api.Ent{}
	for _, l := range w.b.live() {
		ok := true
		for id := 1; id <= 24; id++ {
			_, is := l.has[id]
			ok = ok && (is || uint32(all)>>id%2 == 0) && (!is || uint32(none)>>id%2 == 0)
		}
		if ok {
			want = append(want, l.e)
		}
	}
	if got := w.w.Match(all, none); !slices.Equal(got, want) {
		t.Fatal("Match", all, none, got, want)
	}
}

// someSets are those of the tables, these with some bit turned, and some others.
func someSets(b *book) []sig.Sig {
	list := []sig.Sig{0, 1, 1 << 31, 1<<32 - 1, 1<<25 - 2, setOf(1), setOf(24), setOf(1, 25), setOf(4, 7)}
	for i, text := range b.tables {
		set := sig.Sig(0)
		for _, word := range strings.FieldsFunc(text, func(r rune) bool { return r == ',' }) {
			id, _ := strconv.Atoi(word)
			set |= 1 << id
		}
		list = append(list, set, set^1<<(i*5%32), set|1, set|1<<30)
	}
	return list
}

func bitsOf(s sig.Sig) []int {
	list := []int{}
	for bit := range 32 {
		if uint32(s)>>bit%2 == 1 {
			list = append(list, bit)
		}
	}
	return list
}

// strangers are handles, and other numbers, that nobody lives with.
func strangers(b *book) []api.Ent {
	list := []api.Ent{0, 1, 1 << 32, 1<<64 - 1, 1<<63 + 1, 1<<32 - 1, 1<<32 + 257, 1<<32 + 256}
	for id := range b.c.Ents + 2 {
		for gen := range 3 {
			list = append(list, api.Ent(gen)<<32+api.Ent(id))
		}
		list = append(list, api.Ent(b.ended[id]+2)<<32+api.Ent(id))
	}
	list = append(list, b.past...)
	return slices.DeleteFunc(list, func(e api.Ent) bool { return b.find(e) != nil })
}

// isNobody fails, unless all that is asked of somebody, or done to them, is that
// error, whatever else is wrong.
func isNobody(t testing.TB, w *world.World, e api.Ent, want api.Errno) {
	t.Helper()
	if parts, err := w.Parts(e); err != want || len(parts) != 0 {
		t.Fatal("Parts", e, parts, err)
	}
	if set, err := w.Sig(e); err != want || set != 0 {
		t.Fatal("Sig", e, set, err)
	}
	if err := w.Despawn(e); err != want {
		t.Fatal("Despawn", e, err)
	}
	for _, list := range [][]api.Part{nil, {part(4)}, {part(7, 1)}, {part(7, 999)}, {part(4), part(4)}, {part(0)}} {
		if err := w.Place(e, list); err != want {
			t.Fatal("Place", e, list, err)
		}
	}
	for _, id := range []int{1, 4, 7, 2, 0, 36, minInt} {
		if val, err := w.Get(e, id); err != want || len(val) != 0 {
			t.Fatal("Get", e, id, val, err)
		}
		if err := w.Remove(e, id); err != want {
			t.Fatal("Remove", e, id, err)
		}
		for _, p := range []api.Part{part(id), part(id, 5), part(id, maxInt)} {
			if err := w.Add(e, p); err != want {
				t.Fatal("Add", e, p, err)
			}
			if err := w.Set(e, p); err != want {
				t.Fatal("Set", e, p, err)
			}
		}
	}
}

// hasNot fails, unless all that is asked of a component that somebody hasn't is
// that error.
func hasNot(t testing.TB, w twin, l *leaf, id int) {
	t.Helper()
	want := api.ErrNone
	if l.awaited {
		want = api.ErrState
	}
	if val, err := w.w.Get(l.e, id); err != want || len(val) != 0 {
		t.Fatal("Get", l.e, id, val, err)
	}
	if err := w.remove(t, l.e, id); err != want {
		t.Fatal("Remove", l.e, id, err)
	}
	for _, p := range []api.Part{part(id), part(id, 5), part(id, maxInt)} {
		if err := w.set(t, l.e, p); err == api.OK {
			t.Fatal("Set", l.e, p)
		}
	}
}
