package pieces_test

import (
	"math/bits"
	"slices"
	"testing"

	"quill/api"
	"quill/pieces"
)

// of is pieces, offset and length one after the other.
func of(numbers ...int) []api.Piece {
	var out []api.Piece
	for i := 0; i+1 < len(numbers); i += 2 {
		out = append(out, api.Piece{Off: numbers[i], Len: numbers[i+1]})
	}
	return out
}

func sizeOf(list []api.Piece) int {
	size := 0
	for _, p := range list {
		size += p.Len
	}
	return size
}

// model is what a tree should be: a plain list, gone through from its beginning.
type model struct {
	list []api.Piece
}

// parted is the list with an edge at pos, and how many pieces lie ahead of it.
func (m *model) parted(pos int) ([]api.Piece, int) {
	var out []api.Piece
	start, ahead := 0, 0
	for _, p := range m.list {
		if start < pos && pos < start+p.Len {
			n := pos - start
			out = append(out, api.Piece{Off: p.Off, Len: n}, api.Piece{Off: p.Off + n, Len: p.Len - n})
		} else {
			out = append(out, p)
		}
		start += p.Len
	}
	start = 0
	for _, p := range out {
		if start < pos {
			ahead++
		}
		start += p.Len
	}
	return out, ahead
}

func (m *model) insert(pos int, p api.Piece) api.Errno {
	if pos < 0 || pos > sizeOf(m.list) {
		return api.ErrPos
	}
	if p.Len < 1 || p.Len > 5000 || p.Off < 0 || p.Off > 1000000000 {
		return api.ErrArg
	}
	list, at := m.parted(pos)
	if len(list)+1 > 4096 {
		return api.ErrFull
	}
	m.list = slices.Insert(list, at, p)
	return api.OK
}

func (m *model) delete(pos, n int) ([]api.Piece, api.Errno) {
	size := sizeOf(m.list)
	if n < 0 || pos < 0 || pos > size || n > size-pos {
		return nil, api.ErrPos
	}
	if n == 0 {
		return nil, api.OK
	}
	once, from := m.parted(pos)
	list, to := (&model{once}).parted(pos + n)
	gone := slices.Clone(list[from:to])
	list = slices.Delete(list, from, to)
	if len(list) > 4096 {
		return nil, api.ErrFull
	}
	m.list = list
	return gone, api.OK
}

func (m *model) find(pos int) (api.Piece, api.Errno) {
	if pos < 0 {
		return api.Piece{}, api.ErrPos
	}
	for _, p := range m.list {
		if pos < p.Len {
			return api.Piece{Off: p.Off + pos, Len: p.Len - pos}, api.OK
		}
		pos -= p.Len
	}
	return api.Piece{}, api.ErrPos
}

// both is a tree and its model; each call goes to both, and their answers are compared.
type both struct {
	t     *testing.T
	tree  *pieces.Tree
	model *model
}

func newBoth(t *testing.T) *both {
	t.Helper()
	tree := pieces.New()
	if tree == nil {
		t.Fatal("New gave nothing")
	}
	return &both{t, tree, &model{}}
}

// rowOf is a tree of so many pieces of one length, with gaps between their offsets.
func rowOf(t *testing.T, count, length int) *both {
	t.Helper()
	b := newBoth(t)
	for i := range count {
		p := api.Piece{Off: i * (length + 1), Len: length}
		if e := b.tree.Insert(i*length, p); e != api.OK {
			t.Fatalf("Insert(%d, %v) = %d", i*length, p, e)
		}
		b.model.list = append(b.model.list, p)
	}
	return b
}

// holding is a tree of these pieces.
func holding(t *testing.T, list []api.Piece) *both {
	t.Helper()
	b := newBoth(t)
	for _, p := range list {
		b.insert(b.tree.Size(), p)
	}
	b.same()
	return b
}

func (b *both) insert(pos int, p api.Piece) api.Errno {
	b.t.Helper()
	want := b.model.insert(pos, p)
	got := b.tree.Insert(pos, p)
	if got != want {
		b.t.Fatalf("Insert(%d, %v) = %d, want %d", pos, p, got, want)
	}
	return got
}

func (b *both) delete(pos, n int) ([]api.Piece, api.Errno) {
	b.t.Helper()
	want, e := b.model.delete(pos, n)
	got, ge := b.tree.Delete(pos, n)
	if ge != e || !slices.Equal(got, want) {
		b.t.Fatalf("Delete(%d, %d) = %v, %d, want %v, %d", pos, n, got, ge, want, e)
	}
	return got, ge
}

func (b *both) find(pos int) {
	b.t.Helper()
	want, e := b.model.find(pos)
	got, ge := b.tree.Find(pos)
	if got != want || ge != e {
		b.t.Fatalf("Find(%d) = %v, %d, want %v, %d", pos, got, ge, want, e)
	}
}

func (b *both) findEverywhere() {
	b.t.Helper()
	for pos := -1; pos <= sizeOf(b.model.list)+1; pos++ {
		b.find(pos)
	}
}

// same compares all that a tree tells of itself.
func (b *both) same() {
	b.t.Helper()
	if got := b.tree.Pieces(); !slices.Equal(got, b.model.list) {
		b.t.Fatalf("pieces %v, want %v", got, b.model.list)
	}
	if got, want := b.tree.Size(), sizeOf(b.model.list); got != want {
		b.t.Fatalf("size %d, want %d", got, want)
	}
	b.lowEnough()
}

// lowEnough looks at the height alone (P4).
func (b *both) lowEnough() {
	b.t.Helper()
	n := len(b.model.list)
	h := b.tree.Height()
	if n == 0 && h != 0 || n > 0 && (h < 1 || h > 2*bits.Len(uint(n))) {
		b.t.Fatalf("%d pieces, height %d", n, h)
	}
}

// is compares the pieces with what the test itself writes out.
func (b *both) is(numbers ...int) {
	b.t.Helper()
	if want := of(numbers...); !slices.Equal(b.tree.Pieces(), want) {
		b.t.Fatalf("pieces %v, want %v", b.tree.Pieces(), want)
	}
	b.same()
}

// goes deletes, and compares what went with what the test itself writes out.
func (b *both) goes(pos, n int, numbers ...int) {
	b.t.Helper()
	got, e := b.delete(pos, n)
	if want := of(numbers...); e != api.OK || !slices.Equal(got, want) {
		b.t.Fatalf("Delete(%d, %d) = %v, %d, want %v", pos, n, got, e, want)
	}
}

// lies inserts what is allowed.
func (b *both) lies(pos, off, n int) {
	b.t.Helper()
	if e := b.insert(pos, api.Piece{Off: off, Len: n}); e != api.OK {
		b.t.Fatalf("Insert(%d, {%d %d}) = %d", pos, off, n, e)
	}
}

// refuses inserts what is not allowed, and looks that nothing changed.
func (b *both) refuses(want api.Errno, pos, off, n int) {
	b.t.Helper()
	if e := b.insert(pos, api.Piece{Off: off, Len: n}); e != want {
		b.t.Fatalf("Insert(%d, {%d %d}) = %d, want %d", pos, off, n, e, want)
	}
	b.same()
}

// stays deletes what is not allowed, and looks that nothing changed.
func (b *both) stays(want api.Errno, pos, n int) {
	b.t.Helper()
	if list, e := b.delete(pos, n); e != want || len(list) != 0 {
		b.t.Fatalf("Delete(%d, %d) = %v, %d, want %d", pos, n, list, e, want)
	}
	b.same()
}
