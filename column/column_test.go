package column_test

import (
	"math/rand/v2"
	"slices"
	"strings"
	"testing"

	"retrofit/api"
	"retrofit/column"
)

const (
	maxInt = 1<<63 - 1
	minInt = -1 << 63
)

// rowOf is a row that tells its number, as far as so many bytes can.
func rowOf(size, n int) string {
	row := make([]byte, size)
	for i := range row {
		row[i] = byte(n >> (8 * (i % 3)))
	}
	return string(row)
}

// filled has so many rows, from number 0 on.
func filled(t testing.TB, size, most, n int) (*column.Column, []string) {
	t.Helper()
	c, rows := column.New(size, most), []string{}
	for i := range n {
		if e := c.Append(rowOf(size, i)); e != api.OK {
			t.Fatal(size, most, i, e)
		}
		rows = append(rows, rowOf(size, i))
	}
	return c, rows
}

// chunksFor counts them one by one.
func chunksFor(rows int) int {
	n := 0
	for rows > 0 {
		rows -= 16
		n++
	}
	return n
}

// beside are numbers that no row of n has.
func beside(n int) []int {
	return []int{-1, -2, -16, n, n + 1, n + 15, n + 16, 1 << 16, 1 << 32, 1<<32 + 1, maxInt, minInt, minInt + 1}
}

// has: whether a column tells of itself, in all ways, just these rows.
func has(t testing.TB, c *column.Column, size, most int, rows []string) {
	t.Helper()
	n := len(rows)
	if c.Len() != n || c.Size() != size || c.Cap() != most || c.Chunks() != chunksFor(n) || !slices.Equal(c.Rows(), rows) {
		t.Fatal(c.Len(), c.Size(), c.Cap(), c.Chunks(), c.Rows(), "not", size, most, rows)
	}
	for i, row := range rows {
		if got, e := c.Get(i); e != api.OK || got != row {
			t.Fatal(i, got, e)
		}
	}
	for _, i := range beside(n) {
		if got, e := c.Get(i); e != api.ErrRange || got != "" {
			t.Fatal(i, got, e)
		}
	}
}

// P6.1

func TestWhatCanBe(t *testing.T) {
	for _, size := range []int{0, 1, 2, 3, 255, 256} {
		for _, most := range []int{1, 2, 15, 16, 17, 255, 1<<16 - 1, 1 << 16} {
			c := column.New(size, most)
			if c == nil {
				t.Fatal(size, most)
			}
			has(t, c, size, most, nil)
		}
	}
}

func TestWhatCannotBe(t *testing.T) {
	good := [][]int{{0, 1, 256}, {1, 16, 1 << 16}}
	wrong := [][]int{
		{-1, -256, 257, 258, 512, 1 << 32, 1<<32 + 1, maxInt, minInt, minInt + 1},
		{0, -1, -16, 1<<16 + 1, 1 << 17, 1 << 32, 1<<32 + 1, maxInt, minInt, minInt + 1},
	}
	for _, size := range wrong[0] {
		for _, most := range append(slices.Clone(good[1]), wrong[1]...) {
			if column.New(size, most) != nil {
				t.Error(size, most)
			}
		}
	}
	for _, most := range wrong[1] {
		for _, size := range good[0] {
			if column.New(size, most) != nil {
				t.Error(size, most)
			}
		}
	}
}

func TestAppendStandsBehindAll(t *testing.T) {
	c, rows := column.New(2, 5), []string{}
	for _, row := range []string{"ab", "cd", "ab", "\x00\x00", "\xff\xfe"} {
		if e := c.Append(row); e != api.OK {
			t.Fatal(row, e)
		}
		rows = append(rows, row)
		has(t, c, 2, 5, rows)
	}
}

func TestAppendOfWrongSize(t *testing.T) {
	for _, size := range []int{0, 1, 2, 8, 255, 256} {
		for _, n := range []int{0, 1, 15, 16, 17, 20} {
			c, rows := filled(t, size, 20, n)
			for _, long := range []int{0, 1, size - 1, size + 1, 2 * size, 256, 257, 1 << 12} {
				// Of a full column a row's form is told first.
				if long >= 0 && long != size && c.Append(strings.Repeat("x", long)) != api.ErrForm {
					t.Error(size, n, long)
				}
			}
			has(t, c, size, 20, rows)
		}
	}
}

func TestAppendUpToCap(t *testing.T) {
	for _, size := range []int{0, 1, 3, 256} {
		for _, most := range []int{1, 2, 15, 16, 17, 31, 32, 33, 100} {
			c, rows := filled(t, size, most, most)
			for range 3 {
				if e := c.Append(rowOf(size, 77)); e != api.ErrFull {
					t.Error(size, most, e)
				}
			}
			has(t, c, size, most, rows)
			if _, e := c.Swap(most - 1); e != api.OK {
				t.Error(e)
			}
			if c.Append(rowOf(size, 78)) != api.OK || c.Append(rowOf(size, 79)) != api.ErrFull {
				t.Error(size, most)
			}
			rows[most-1] = rowOf(size, 78)
			has(t, c, size, most, rows)
		}
	}
}

func TestMostRows(t *testing.T) {
	for _, size := range []int{0, 3} {
		c, rows := filled(t, size, 1<<16, 1<<16)
		if e := c.Append(rowOf(size, 5)); e != api.ErrFull || c.Chunks() != 1<<12 {
			t.Error(e, c.Chunks())
		}
		has(t, c, size, 1<<16, rows)
	}
}

func TestSet(t *testing.T) {
	for _, size := range []int{0, 1, 2, 7, 256} {
		c, rows := filled(t, size, 50, 40)
		for _, i := range []int{0, 1, 14, 15, 16, 17, 31, 32, 38, 39, 0} {
			rows[i] = rowOf(size, 1000+i)
			if e := c.Set(i, rows[i]); e != api.OK {
				t.Error(size, i, e)
			}
			has(t, c, size, 50, rows)
		}
	}
}

func TestSetOfNoRow(t *testing.T) {
	for _, n := range []int{0, 1, 15, 16, 17, 40} {
		c, rows := filled(t, 3, 40, n)
		for _, i := range beside(n) {
			// That there is no such row is told first.
			for _, row := range []string{"abc", "", "ab", "abcd"} {
				if e := c.Set(i, row); e != api.ErrRange {
					t.Error(n, i, row, e)
				}
			}
		}
		has(t, c, 3, 40, rows)
	}
}

func TestSetOfWrongSize(t *testing.T) {
	for _, size := range []int{0, 1, 3, 256} {
		c, rows := filled(t, size, 40, 20)
		for _, i := range []int{0, 15, 16, 19} {
			for _, long := range []int{0, 1, size - 1, size + 1, 16 * size, 257} {
				if long >= 0 && long != size && c.Set(i, strings.Repeat("x", long)) != api.ErrForm {
					t.Error(size, i, long)
				}
			}
		}
		has(t, c, size, 40, rows)
	}
}

func TestNil(t *testing.T) {
	var c *column.Column
	for _, i := range append(beside(0), 0) {
		if row, e := c.Get(i); row != "" || e != api.ErrNil {
			t.Error(i, row, e)
		}
		if at, e := c.Swap(i); at != 0 || e != api.ErrNil {
			t.Error(i, at, e)
		}
		for _, row := range []string{"", "row"} {
			if c.Set(i, row) != api.ErrNil || c.Append(row) != api.ErrNil {
				t.Error(i, row)
			}
		}
	}
	if c.Len() != 0 || c.Size() != 0 || c.Cap() != 0 || c.Chunks() != 0 || len(c.Rows()) != 0 || c.Clone() != nil {
		t.Error("nil")
	}
}

// P6.2

func TestSwapByHand(t *testing.T) {
	c := column.New(1, 9)
	for _, row := range []string{"a", "b", "c", "d"} {
		c.Append(row)
	}
	for _, x := range []struct {
		i, at int
		rows  []string
	}{
		{0, 3, []string{"d", "b", "c"}},
		{1, 2, []string{"d", "c"}},
		{1, 1, []string{"d"}},
		{0, 0, nil},
	} {
		if at, e := c.Swap(x.i); at != x.at || e != api.OK {
			t.Error(x.i, at, e)
		}
		has(t, c, 1, 9, x.rows)
	}
	if at, e := c.Swap(0); at != 0 || e != api.ErrRange {
		t.Error(at, e)
	}
}

func TestSwapOfEachRow(t *testing.T) {
	for _, size := range []int{0, 1, 2, 256} {
		for _, n := range []int{1, 2, 3, 15, 16, 17, 18, 32, 33, 48} {
			for i := range n {
				c, rows := filled(t, size, 50, n)
				if at, e := c.Swap(i); at != n-1 || e != api.OK {
					t.Fatal(size, n, i, at, e)
				}
				rows[i] = rows[n-1]
				has(t, c, size, 50, rows[:n-1])
			}
		}
	}
}

func TestSwapOfNoRow(t *testing.T) {
	for _, n := range []int{0, 1, 16, 17} {
		c, rows := filled(t, 2, 20, n)
		for _, i := range beside(n) {
			if at, e := c.Swap(i); at != 0 || e != api.ErrRange {
				t.Error(n, i, at, e)
			}
		}
		has(t, c, 2, 20, rows)
	}
}

func TestCloneSharesNothing(t *testing.T) {
	for _, n := range []int{0, 1, 15, 16, 17, 32, 40} {
		c, rows := filled(t, 2, 64, n)
		d := c.Clone()
		if d == c {
			t.Fatal("itself")
		}
		has(t, d, 2, 64, rows)
		for _, x := range [][2]*column.Column{{c, d}, {d.Clone(), d}, {d, c.Clone()}} {
			one, other := x[0], x[1]
			stays := other.Rows()
			for i := range one.Len() {
				one.Set(i, "\xaa\xbb")
			}
			one.Append("\xcc\xdd")
			one.Append("\xee\xff")
			one.Swap(0)
			has(t, other, 2, 64, stays)
		}
	}
}

func TestClonesGrowApart(t *testing.T) {
	for _, n := range []int{0, 16, 20, 48} {
		c, rows := filled(t, 1, 64, n)
		d := c.Clone()
		left, right := slices.Clone(rows), slices.Clone(rows)
		for i := range 64 - n {
			left, right = append(left, "l"), append(right, rowOf(1, i))
			if c.Append("l") != api.OK || d.Append(rowOf(1, i)) != api.OK {
				t.Fatal(n, i)
			}
		}
		if c.Append("l") != api.ErrFull || d.Append("r") != api.ErrFull {
			t.Error(n)
		}
		has(t, c, 1, 64, left)
		has(t, d, 1, 64, right)
	}
}

func TestRowsAreNew(t *testing.T) {
	c, rows := filled(t, 2, 20, 18)
	one, _ := c.Get(3)
	all := c.Rows()
	for i := range all {
		all[i] = "??"
	}
	has(t, c, 2, 20, rows)
	all = c.Rows()
	c.Set(3, "\xaa\xbb")
	c.Swap(0)
	if one != rows[3] || !slices.Equal(all, rows) {
		t.Error(one, all)
	}
}

// P6.3

func TestNothingIsLostNorTwice(t *testing.T) {
	dice := rand.New(rand.NewPCG(6, 3))
	for range 60 {
		c, living := column.New(4, 200), map[string]int{}
		for n := range 1500 {
			if dice.IntN(5) < 3 && c.Append(rowOf(4, n)) == api.OK {
				living[rowOf(4, n)]++
			} else if c.Len() > 0 {
				i := dice.IntN(c.Len())
				row, _ := c.Get(i)
				delete(living, row)
				c.Swap(i)
			}
			if c.Len() != len(living) || c.Chunks() != chunksFor(len(living)) {
				t.Fatal(n, c.Len(), c.Chunks(), len(living))
			}
		}
		for _, row := range c.Rows() {
			living[row]--
		}
		for row, n := range living {
			if n != 0 {
				t.Error(row, n)
			}
		}
	}
}

func TestChunksComeAndGo(t *testing.T) {
	for _, size := range []int{0, 1, 256} {
		c := column.New(size, 100)
		for n := range 100 {
			if c.Chunks() != chunksFor(n) {
				t.Error(size, n, c.Chunks())
			}
			c.Append(rowOf(size, n))
		}
		// At a chunk's end rows come and go.
		for c.Len() > 0 {
			c.Swap(c.Len() / 2)
			c.Append(rowOf(size, 9))
			c.Swap(0)
			if c.Chunks() != chunksFor(c.Len()) {
				t.Error(size, c.Len(), c.Chunks())
			}
		}
	}
}

// twin does each deed on a column, and on a list beside it.
type twin struct {
	c          *column.Column
	size, most int
	rows       []string
}

func (w *twin) add(row string) bool {
	want := api.OK
	if len(row) != w.size {
		want = api.ErrForm
	} else if len(w.rows) == w.most {
		want = api.ErrFull
	} else {
		w.rows = append(w.rows, row)
	}
	return w.c.Append(row) == want
}

func (w *twin) set(i int, row string) bool {
	want := api.OK
	if i < 0 || i >= len(w.rows) {
		want = api.ErrRange
	} else if len(row) != w.size {
		want = api.ErrForm
	} else {
		w.rows[i] = row
	}
	return w.c.Set(i, row) == want
}

func (w *twin) swap(i int) bool {
	at, e := w.c.Swap(i)
	n := len(w.rows)
	if i < 0 || i >= n {
		return at == 0 && e == api.ErrRange
	}
	w.rows[i] = w.rows[n-1]
	w.rows = w.rows[:n-1]
	return at == n-1 && e == api.OK
}

func FuzzDeeds(f *testing.F) {
	f.Add(byte(2), byte(20), "aaaaaaaaaaaaaaaaaaaaaaaaaasbscdcd")
	f.Add(byte(0), byte(33), strings.Repeat("a", 120))
	f.Add(byte(3), byte(3), "Aaa0s1s2c")
	f.Fuzz(func(t *testing.T, size, most byte, deeds string) {
		w := &twin{column.New(int(size), int(most)), int(size), int(most), []string{}}
		if w.c == nil {
			if most > 0 {
				t.Fatal("nil")
			}
			return
		}
		for n := range min(len(deeds)/2, 300) {
			i, ok := int(deeds[2*n+1])-2, true
			switch deeds[2*n] % 8 {
			case 0, 1, 2:
				ok = w.add(rowOf(w.size, i))
			case 3:
				ok = w.set(i, rowOf(w.size, n))
			case 4, 5:
				ok = w.swap(i)
			case 6:
				ok = w.add(rowOf(i+2, n)) && w.set(n, rowOf(i+2, n))
			case 7:
				old := w.c
				w.c = old.Clone()
				old.Set(0, strings.Repeat("o", w.size))
				old.Swap(0)
				old.Append(strings.Repeat("o", w.size))
			}
			if !ok {
				t.Fatal(n)
			}
			has(t, w.c, w.size, w.most, w.rows)
		}
	})
}
