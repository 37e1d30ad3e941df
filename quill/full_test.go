package quill_test

import (
	"strings"
	"testing"

	"quill/api"
)

// crowded is an open store whose text is so many pieces of one byte, and one of
// four bytes behind them; with edits.
func crowded(t *testing.T, singles, room int, undo, redo []edit) *both {
	t.Helper()
	c := saved{epoch: 1, done: 1, buffered: 8, text: append(ones(singles), of(4, 4)...), undo: undo, redo: redo}
	b := loaded(t, 5000, 5, room, 1, "abcdefgh", 2, c.bytes())
	b.open(api.OK)
	return b
}

func TestP6InsertIsFull(t *testing.T) {
	b := crowded(t, 4095, 1000000, nil, nil)
	text := strings.Repeat("a", 4095) + "efgh"
	for _, pos := range []int{0, 1, 4095, 4096, 4098, 4099} {
		b.insert(api.ErrFull, pos, "x")
	}
	b.is(text, 1)
	b = crowded(t, 4094, 1000000, nil, nil)
	for _, pos := range []int{4095, 4096, 4097} { // within the piece of four bytes
		b.insert(api.ErrFull, pos, "x")
	}
	b.insert(api.OK, 4094, "x")
	b.insert(api.ErrFull, 4095, "y")
	b = crowded(t, 4093, 1000000, nil, nil)
	b.insert(api.OK, 4095, "x")
	b.insert(api.ErrFull, 0, "y")
	b.undo(api.OK)
	b.insert(api.OK, 0, "y")
	b.insert(api.ErrFull, 0, "z")
}

// TestP6InsertsUntilFull has no checkpoint: all pieces come by calls.
func TestP6InsertsUntilFull(t *testing.T) {
	s := newStore(t, 5000, 3, 1000000)
	wants(t, "Open", s.Open(), api.OK)
	for i := range 4096 {
		wants(t, "Insert", s.Insert(i/2, "ab"[i%2:i%2+1]), api.OK)
	}
	wants(t, "Insert", s.Insert(0, "x"), api.ErrFull)
	wants(t, "Insert", s.Insert(4096, "x"), api.ErrFull)
	wants(t, "Delete", s.Delete(2000, 1), api.OK)
	wants(t, "Insert", s.Insert(0, "xyz"), api.OK)
	wants(t, "Delete", s.Delete(1, 1), api.ErrFull)
	wants(t, "Insert", s.Insert(3, "y"), api.ErrFull)
	wants(t, "Close", s.Close(), api.OK)
	wants(t, "Open", s.Open(), api.OK)
	wants(t, "Delete", s.Delete(1, 1), api.ErrFull)
	wants(t, "Undo", s.Undo(), api.OK)
	wants(t, "Undo", s.Undo(), api.OK)
	wants(t, "Insert", s.Insert(0, "x"), api.ErrFull)
	if n, e := s.Done(); n != 4100 || e != api.OK {
		t.Errorf("Done = %d, %d, want 4100", n, e)
	}
}

func TestP6DeleteIsFull(t *testing.T) {
	b := crowded(t, 4095, 1000000, nil, nil)
	b.delete(api.ErrFull, 4096, 1)
	b.delete(api.ErrFull, 4096, 2)
	b.delete(api.ErrFull, 4097, 1)
	b.delete(api.ErrPos, 4096, 4)
	b.undo(api.ErrNothing) // so nothing was kept of it
	b.delete(api.OK, 4095, 1)
	b.delete(api.OK, 4097, 1)
	b.delete(api.OK, 4094, 2) // a whole piece, and of the last one the first byte
	b.is(strings.Repeat("a", 4094)+"g", 4)
}

// TestP6UndoIsFull: what was split is not joined, so an Undo can have more pieces.
func TestP6UndoIsFull(t *testing.T) {
	b := crowded(t, 4094, 1000000, nil, nil)
	b.delete(api.OK, 4095, 2)
	b.undo(api.ErrFull)
	b.redo(api.ErrNothing)
	b.is(strings.Repeat("a", 4094)+"eh", 2)
	b.delete(api.OK, 0, 1)
	b.undo(api.OK)
	b.undo(api.ErrFull)
	b.redo(api.OK)
	b.reopen()
	b.undo(api.OK)
	b.undo(api.ErrFull)
	b.is(strings.Repeat("a", 4094)+"eh", 6)
}

// TestP6RedoIsFull: the checkpoint brings an edit that can't be done again.
func TestP6RedoIsFull(t *testing.T) {
	for _, c := range []struct {
		singles int
		e       edit
		want    api.Errno
	}{
		{4095, edit{0, nil, of(0, 1)}, api.ErrFull},
		{4094, edit{0, nil, of(0, 1)}, api.OK},
		{4094, edit{0, nil, of(0, 1, 1, 1)}, api.ErrFull},
		{4093, edit{0, nil, of(0, 1, 1, 1)}, api.OK},
		{4094, edit{4095, nil, of(0, 1)}, api.ErrFull},
		{4093, edit{4094, nil, of(0, 1)}, api.OK},
		{4095, edit{4096, of(0, 1), nil}, api.ErrFull},
		{4095, edit{0, of(0, 1), nil}, api.OK},
		{4095, edit{0, of(0, 1), of(3, 1)}, api.OK},
		{4095, edit{0, of(0, 1), of(3, 1, 2, 1)}, api.ErrFull},
		{4095, edit{0, of(0, 2), of(3, 1, 2, 1)}, api.OK},
		{4095, edit{4095, of(0, 3), of(3, 1)}, api.ErrFull},
		{4095, edit{4094, of(0, 3), of(3, 1)}, api.OK},
		{4095, edit{4096, nil, nil}, api.OK}, // splits nothing
	} {
		b := crowded(t, c.singles, 1000000, nil, []edit{c.e})
		b.redo(c.want)
		b = crowded(t, c.singles, 1000000, []edit{{c.e.where, c.e.came, c.e.went}}, nil)
		b.undo(c.want)
	}
}

// TestP6FullIsBehindOthers: the errors that stand above are named first, and
// those of the disk behind it.
func TestP6FullIsBehindOthers(t *testing.T) {
	b := crowded(t, 4095, 40000, nil, nil)
	b.insert(api.ErrPos, -1, "x")
	b.insert(api.ErrPos, 4100, "x")
	b.insert(api.ErrText, 0, "")
	b.insert(api.ErrText, 0, strings.Repeat("x", 201))
	b.undo(api.ErrNothing)
	b.redo(api.ErrNothing)
	used := 0
	for _, f := range b.store.Image() {
		used += len(f.Bytes)
	}
	b = crowded(t, 4095, used, nil, nil)
	b.insert(api.ErrFull, 0, "x")
	b.delete(api.ErrFull, 4096, 1)
	b.sync(api.OK) // so it is not read-only
	b.delete(api.ErrNoSpace, 0, 1)
	b.insert(api.ErrReadOnly, 0, "x")
	long := loaded(t, 4098, 5, 1000000, 1, "abcdefgh", 2, saved{epoch: 1, buffered: 8, text: append(ones(4095), of(4, 4)...)}.bytes())
	long.open(api.OK)
	long.insert(api.ErrLong, 0, "x")
}
