package entity_test

import (
	"maps"
	"math/rand/v2"
	"slices"
	"testing"

	"retrofit/api"
	"retrofit/entity"
)

const (
	maxInt = 1<<63 - 1
	minInt = -1 << 63
)

// who is a handle's two numbers.
type who struct{ id, gen int }

// number is a handle by the chapter's words, without shifts.
func (w who) number() api.Ent { return api.Ent(w.gen)*4294967296 + api.Ent(w.id) }

// book is a second reading of an index: who lives, and who ever ended, by name.
type book struct {
	ids, gens int
	living    map[who]bool
	ended     map[who]bool
}

func newBook(ids, gens int) *book {
	return &book{ids: ids, gens: gens, living: map[who]bool{}, ended: map[who]bool{}}
}

// now is whom an id is for: the first generation that hasn't ended; false, if
// all have.
func (b *book) now(id int) (who, bool) {
	for gen := 1; gen <= b.gens; gen++ {
		if w := (who{id, gen}); !b.ended[w] {
			return w, true
		}
	}
	return who{}, false
}

// waiting are those who could be next, by rising ids.
func (b *book) waiting() []who {
	var list []who
	for id := 1; id <= b.ids; id++ {
		if w, ok := b.now(id); ok && !b.living[w] {
			list = append(list, w)
		}
	}
	return list
}

func (b *book) spawn() (api.Ent, api.Errno) {
	list := b.waiting()
	if len(list) == 0 {
		return 0, api.ErrFull
	}
	b.living[list[0]] = true
	return list[0].number(), api.OK
}

func (b *book) kill(e api.Ent) api.Errno {
	for w := range b.living {
		if w.number() == e {
			delete(b.living, w)
			b.ended[w] = true
			return api.OK
		}
	}
	return api.ErrStale
}

func (b *book) alive(e api.Ent) bool {
	for w := range b.living {
		if w.number() == e {
			return true
		}
	}
	return false
}

func (b *book) live() []api.Ent {
	var list []api.Ent
	for id := 1; id <= b.ids; id++ {
		if w, ok := b.now(id); ok && b.living[w] {
			list = append(list, w.number())
		}
	}
	return list
}

func (b *book) next() api.Ent {
	list := b.waiting()
	if len(list) == 0 {
		return 0
	}
	return list[0].number()
}

// text is all that an index is, for a map's key.
func (b *book) text() string {
	var text []byte
	for id := 1; id <= b.ids; id++ {
		w, ok := b.now(id)
		switch {
		case !ok:
			text = append(text, "retired "...)
		case b.living[w]:
			text = append(text, 'a'+byte(w.gen), '!')
		default:
			text = append(text, 'a'+byte(w.gen), '?')
		}
	}
	return string(text)
}

func (b *book) clone() *book {
	return &book{ids: b.ids, gens: b.gens, living: maps.Clone(b.living), ended: maps.Clone(b.ended)}
}

// pair is an index, and what it has to be.
type pair struct {
	x *entity.Index
	b *book
}

// after are the pairs that one call makes of clones of a pair.
func (p pair) after(t *testing.T) []pair {
	var list []pair
	for _, e := range append(p.b.live(), 0) {
		next := pair{p.x.Clone(), p.b.clone()}
		step(t, next.x, next.b, e, e == 0)
		list = append(list, next)
	}
	return list
}

// agree fails, unless an index answers all that the book does.
func agree(t *testing.T, x *entity.Index, b *book) {
	t.Helper()
	live := b.live()
	if got := x.Live(); !slices.Equal(got, live) {
		t.Fatal("Live", got, live)
	}
	if got := x.Count(); got != len(live) {
		t.Fatal("Count", got, len(live))
	}
	if got, want := x.Free(), len(b.waiting()); got != want {
		t.Fatal("Free", got, want)
	}
	if got, want := x.Next(), b.next(); got != want {
		t.Fatal("Next", got, want)
	}
}

// agreeNear asks of all handles near the index's own, too.
func agreeNear(t *testing.T, x *entity.Index, b *book) {
	t.Helper()
	agree(t, x, b)
	for _, e := range near(b.ids, b.gens) {
		if got, want := x.Alive(e), b.alive(e); got != want {
			t.Fatal("Alive", e, got, want)
		}
		if b.alive(e) {
			continue
		}
		if err := x.Kill(e); err != api.ErrStale {
			t.Fatal("Kill", e, err)
		}
	}
	agree(t, x, b)
}

// near are the handles of an index, those a bit beyond, and those that come
// round to them, if a half is cut.
func near(ids, gens int) []api.Ent {
	list := []api.Ent{0, 1, 1 << 31, 1 << 32, 1 << 63, 1<<64 - 1}
	for id := 0; id <= ids+2; id++ {
		for gen := 0; gen <= gens+2; gen++ {
			e := who{id, gen}.number()
			list = append(list, e, ^e, -e)
			for _, bit := range []int{8, 16, 31, 40, 48, 62, 63} {
				list = append(list, e|1<<bit)
			}
		}
	}
	return list
}

// step does something to both, and fails, unless both answer the same.
func step(t *testing.T, x *entity.Index, b *book, e api.Ent, spawn bool) (api.Ent, api.Errno) {
	t.Helper()
	if !spawn {
		err := x.Kill(e)
		if want := b.kill(e); err != want {
			t.Fatal("Kill", e, err, want)
		}
		return 0, err
	}
	got, err := x.Spawn()
	if want, wantErr := b.spawn(); got != want || err != wantErr {
		t.Fatal("Spawn", got, err, want, wantErr)
	}
	return got, err
}

// pick is somebody to end: mostly who lives, else any near one.
func pick(r *rand.Rand, b *book) api.Ent {
	live := b.live()
	if len(live) > 0 && r.IntN(5) > 0 {
		return live[r.IntN(len(live))]
	}
	return who{r.IntN(b.ids + 2), r.IntN(b.gens + 2)}.number()
}
