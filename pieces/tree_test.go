package pieces_test

import (
	"math/rand"
	"testing"

	"quill/api"
)

func TestP3New(t *testing.T) {
	b := newBoth(t)
	b.is()
	b.findEverywhere()
	b.goes(0, 0)
	b.stays(api.ErrPos, 0, 1)
	b.stays(api.ErrPos, 1, 0)
	b.refuses(api.ErrPos, 1, 0, 1)
	b.refuses(api.ErrPos, -1, 0, 1)
}

func TestP3Example(t *testing.T) {
	b := newBoth(t)
	b.lies(0, 10, 5)
	b.lies(2, 50, 1)
	b.is(10, 2, 50, 1, 12, 3)
	if b.tree.Size() != 6 {
		t.Fatalf("size %d", b.tree.Size())
	}
	b.lies(3, 70, 2)
	b.is(10, 2, 50, 1, 70, 2, 12, 3)
	b.goes(1, 3, 11, 1, 50, 1, 70, 1)
	b.is(10, 1, 71, 1, 12, 3)
	for pos, want := range of(10, 1, 71, 1, 12, 3, 13, 2, 14, 1) {
		if p, e := b.tree.Find(pos); p != want || e != api.OK {
			t.Errorf("Find(%d) = %v, %d, want %v", pos, p, e, want)
		}
	}
	if p, e := b.tree.Find(5); p != (api.Piece{}) || e != api.ErrPos {
		t.Errorf("Find(5) = %v, %d", p, e)
	}
	b.goes(5, 0)
	b.stays(api.ErrPos, 6, 0)
}

func TestP3InsertPlaces(t *testing.T) {
	for _, c := range []struct {
		pos  int
		want []int
	}{
		{0, []int{90, 7, 10, 3, 20, 1, 30, 2}},
		{1, []int{10, 1, 90, 7, 11, 2, 20, 1, 30, 2}},
		{2, []int{10, 2, 90, 7, 12, 1, 20, 1, 30, 2}},
		{3, []int{10, 3, 90, 7, 20, 1, 30, 2}},
		{4, []int{10, 3, 20, 1, 90, 7, 30, 2}},
		{5, []int{10, 3, 20, 1, 30, 1, 90, 7, 31, 1}},
		{6, []int{10, 3, 20, 1, 30, 2, 90, 7}},
	} {
		b := holding(t, of(10, 3, 20, 1, 30, 2))
		b.lies(c.pos, 90, 7)
		b.is(c.want...)
		b.findEverywhere()
	}
	b := holding(t, of(10, 3, 20, 1, 30, 2))
	b.refuses(api.ErrPos, 7, 90, 7)
	b.refuses(api.ErrPos, -1, 90, 7)
}

func TestP3DeletePlaces(t *testing.T) {
	for _, c := range []struct {
		pos, n     int
		gone, stay []int
	}{
		{0, 1, []int{10, 1}, []int{11, 3, 20, 1, 30, 2}},
		{1, 2, []int{11, 2}, []int{10, 1, 13, 1, 20, 1, 30, 2}},
		{2, 2, []int{12, 2}, []int{10, 2, 20, 1, 30, 2}},
		{0, 4, []int{10, 4}, []int{20, 1, 30, 2}},
		{4, 1, []int{20, 1}, []int{10, 4, 30, 2}},
		{3, 3, []int{13, 1, 20, 1, 30, 1}, []int{10, 3, 31, 1}},
		{4, 3, []int{20, 1, 30, 2}, []int{10, 4}},
		{6, 1, []int{31, 1}, []int{10, 4, 20, 1, 30, 1}},
		{0, 7, []int{10, 4, 20, 1, 30, 2}, nil},
		{0, 6, []int{10, 4, 20, 1, 30, 1}, []int{31, 1}},
		{1, 6, []int{11, 3, 20, 1, 30, 2}, []int{10, 1}},
		{0, 0, nil, []int{10, 4, 20, 1, 30, 2}},
		{2, 0, nil, []int{10, 4, 20, 1, 30, 2}},
		{4, 0, nil, []int{10, 4, 20, 1, 30, 2}},
		{7, 0, nil, []int{10, 4, 20, 1, 30, 2}},
	} {
		b := holding(t, of(10, 4, 20, 1, 30, 2))
		b.goes(c.pos, c.n, c.gone...)
		b.is(c.stay...)
		b.findEverywhere()
	}
	b := holding(t, of(10, 4, 20, 1, 30, 2))
	for _, c := range [][2]int{{0, -1}, {7, -1}, {-1, 0}, {-1, 1}, {8, 0}, {8, -1}, {7, 1}, {0, 8}, {3, 5}} {
		b.stays(api.ErrPos, c[0], c[1])
	}
}

// TestP3EverywhereInSmallTrees: every place and every length, in rows of one
// to nine pieces.
func TestP3EverywhereInSmallTrees(t *testing.T) {
	lengths := []int{3, 1, 2, 4, 1, 1, 5, 2, 3}
	var row []api.Piece
	for i, n := range lengths {
		row = append(row, api.Piece{Off: 100 * i, Len: n})
		size := sizeOf(row)
		for pos := range size + 1 {
			b := holding(t, row)
			b.lies(pos, 5000, 2)
			b.same()
			b.findEverywhere()
			for n := range size - pos + 1 {
				b := holding(t, row)
				b.delete(pos, n)
				b.same()
				b.findEverywhere()
			}
		}
	}
}

func TestP3NeverJoined(t *testing.T) {
	b := newBoth(t)
	b.lies(0, 12, 3)
	b.lies(0, 10, 2)
	b.lies(5, 15, 1)
	b.is(10, 2, 12, 3, 15, 1)
	if p, _ := b.tree.Find(0); p != (api.Piece{Off: 10, Len: 2}) {
		t.Fatalf("Find(0) = %v", p)
	}
	b.goes(0, 6, 10, 2, 12, 3, 15, 1)

	b.lies(0, 10, 6)
	b.lies(3, 50, 2)
	b.goes(3, 2, 50, 2)
	b.is(10, 3, 13, 3)
	b.lies(3, 13, 1)
	b.is(10, 3, 13, 1, 13, 3)
	b.goes(3, 1, 13, 1)
	b.is(10, 3, 13, 3)
	b.goes(1, 4, 11, 2, 13, 2)
	b.is(10, 1, 15, 1)

	b.lies(1, 11, 4)
	b.is(10, 1, 11, 4, 15, 1)
	b.lies(0, 10, 1)
	b.is(10, 1, 10, 1, 11, 4, 15, 1)
	b.findEverywhere()
}

func TestP3InsertLimits(t *testing.T) {
	b := newBoth(t)
	for _, n := range []int{0, -1, api.MaxLength + 1} {
		b.refuses(api.ErrArg, 0, 0, n)
	}
	for _, off := range []int{-1, api.MaxOffset + 1} {
		b.refuses(api.ErrArg, 0, off, 1)
	}
	b.lies(0, 0, 1)
	b.lies(1, 0, api.MaxLength)
	b.lies(0, api.MaxOffset, 1)
	b.lies(0, api.MaxOffset, api.MaxLength)
	b.is(1000000000, 5000, 1000000000, 1, 0, 1, 0, 5000)
	b.lies(4999, 7, 1)
	b.is(1000000000, 4999, 7, 1, 1000004999, 1, 1000000000, 1, 0, 1, 0, 5000)
	b.goes(4998, 3, 1000004998, 1, 7, 1, 1000004999, 1)
	b.is(1000000000, 4998, 1000000000, 1, 0, 1, 0, 5000)
}

// TestP3ManyBytes: no limit but that of the pieces holds for all of them together.
func TestP3ManyBytes(t *testing.T) {
	b := rowOf(t, api.MaxPieces, api.MaxLength)
	b.same()
	size := api.MaxPieces * api.MaxLength
	if b.tree.Size() != size {
		t.Fatalf("size %d", b.tree.Size())
	}
	b.find(size - 1)
	b.find(size)
	b.find(size / 2)
	b.delete(1, size-2)
	b.is(0, 1, 4095*5001+4999, 1)
}

func TestP3InsertFull(t *testing.T) {
	b := rowOf(t, api.MaxPieces-2, 3)
	b.lies(4, 70, 1)
	b.same()
	b.refuses(api.ErrFull, 2, 80, 1)
	b.refuses(api.ErrFull, b.tree.Size(), 80, 1)
	b.refuses(api.ErrFull, 0, 80, 1)

	b = rowOf(t, api.MaxPieces-1, 3)
	b.refuses(api.ErrFull, 1, 80, 1)
	b.refuses(api.ErrFull, b.tree.Size()-1, 80, 1)
	b.lies(3, 80, 1)
	b.same()
	b.refuses(api.ErrFull, 3, 80, 1)
	b.goes(3, 1, 80, 1)
	b.lies(b.tree.Size(), 81, 1)
	b.same()
	b.goes(0, 1, 0, 1)
	b.refuses(api.ErrFull, 0, 80, 1)
}

func TestP3DeleteFull(t *testing.T) {
	b := rowOf(t, api.MaxPieces-1, 3)
	b.goes(1, 1, 1, 1)
	b.same()
	b.stays(api.ErrFull, 3, 1)
	b.stays(api.ErrFull, b.tree.Size()-2, 1)

	full := func() *both { return rowOf(t, api.MaxPieces, 4) }
	b = full()
	b.stays(api.ErrFull, 1, 1)
	b.stays(api.ErrFull, 1, 2)
	b.stays(api.ErrFull, 6, 1)
	b.goes(1, 0)
	b.goes(2, 0)
	b.same()
	b.goes(0, 1, 0, 1)
	b.goes(2, 1, 3, 1)
	b.same()
	b.goes(1, 4, 2, 1, 5, 3)
	b.same()
	b.stays(api.ErrFull, 3, 1)
	b.goes(1, 1, 8, 1)
	b.goes(3, 1, 12, 1)
	b.same()

	b = full()
	b.goes(1, 6, 1, 3, 5, 3)
	b.same()
	b.stays(api.ErrFull, b.tree.Size()-2, 1)
	b.goes(1, 3, 8, 1, 10, 2)
	b.lies(0, 9, 9)
	b.refuses(api.ErrFull, 0, 9, 9)
}

// TestP3Drawn: long rows of drawn calls against the model.
func TestP3Drawn(t *testing.T) {
	for seed := range int64(20) {
		r := rand.New(rand.NewSource(seed))
		b := newBoth(t)
		for range 600 {
			b.drawnCall(r)
			b.same()
		}
		b.findEverywhere()
	}
}

// TestP3DrawnNearFull: drawn calls around the greatest number of pieces.
func TestP3DrawnNearFull(t *testing.T) {
	r := rand.New(rand.NewSource(3))
	b := rowOf(t, api.MaxPieces-3, 4)
	fulls := 0
	for range 2000 {
		pos := r.Intn(b.tree.Size() + 1)
		if r.Intn(2) == 0 {
			if b.insert(pos, api.Piece{Off: r.Intn(1000), Len: 1 + r.Intn(8)}) == api.ErrFull {
				fulls++
			}
		} else if _, e := b.delete(pos, r.Intn(min(8, b.tree.Size()-pos+1))); e == api.ErrFull {
			fulls++
		}
		b.same()
	}
	if fulls < 100 {
		t.Fatalf("only %d calls found the tree full", fulls)
	}
}
