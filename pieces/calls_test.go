package pieces_test

import (
	"math"
	"testing"

	"quill/api"
)

// edges is numbers at which a call could go wrong: the least, the greatest,
// those that wrap round in fewer bits, and those around a tree's size.
func edges(size int) []int {
	return []int{
		math.MinInt, math.MinInt + 1, math.MinInt + size, math.MinInt / 2, -1 << 32, math.MinInt32, -api.MaxLength, -2, -1,
		0, 1, 2, size / 2, size - 2, size - 1, size, size + 1, 2 * size,
		api.MaxLength - 1, api.MaxLength, api.MaxLength + 1, api.MaxOffset - 1, api.MaxOffset, api.MaxOffset + 1,
		math.MaxInt32, 1 << 32, 1<<32 + 1, math.MaxInt / 2, math.MaxInt - size, math.MaxInt - 1, math.MaxInt,
	}
}

// shapes is makers of trees, from nothing to as many pieces as there may be.
func shapes(t *testing.T) map[string]func() *both {
	return map[string]func() *both{
		"nothing":      func() *both { return newBoth(t) },
		"one byte":     func() *both { return rowOf(t, 1, 1) },
		"one piece":    func() *both { return rowOf(t, 1, 7) },
		"some":         func() *both { return rowOf(t, 9, 3) },
		"two to full":  func() *both { return rowOf(t, api.MaxPieces-2, 3) },
		"one to full":  func() *both { return rowOf(t, api.MaxPieces-1, 3) },
		"full":         func() *both { return rowOf(t, api.MaxPieces, 3) },
		"full of ones": func() *both { return rowOf(t, api.MaxPieces, 1) },
	}
}

func TestP1InsertAtAllNumbers(t *testing.T) {
	for name, build := range shapes(t) {
		t.Run(name, func(t *testing.T) {
			b := build()
			for _, pos := range edges(b.tree.Size()) {
				for _, off := range []int{math.MinInt, -1, 0, 1, api.MaxOffset, api.MaxOffset + 1, 1<<32 + 1, math.MaxInt} {
					for _, n := range []int{math.MinInt, -1, 0, 1, 2, api.MaxLength, api.MaxLength + 1, 1<<32 + 1, math.MaxInt} {
						if b.insert(pos, api.Piece{Off: off, Len: n}) == api.OK {
							b.same()
							b = build()
						}
					}
				}
				b.same()
			}
		})
	}
}

func TestP1DeleteAtAllNumbers(t *testing.T) {
	for name, build := range shapes(t) {
		t.Run(name, func(t *testing.T) {
			b := build()
			for _, pos := range edges(b.tree.Size()) {
				for _, n := range edges(b.tree.Size()) {
					_, e := b.delete(pos, n)
					b.same()
					if e == api.OK && n > 0 {
						b = build()
					}
				}
			}
		})
	}
}

func TestP1FindAtAllNumbers(t *testing.T) {
	for name, build := range shapes(t) {
		t.Run(name, func(t *testing.T) {
			b := build()
			for _, pos := range edges(b.tree.Size()) {
				b.find(pos)
			}
			b.same()
		})
	}
}

func TestP1TheErrorNamedFirst(t *testing.T) {
	full := rowOf(t, api.MaxPieces, 2)
	size := full.tree.Size()
	for _, pos := range []int{-1, size + 1, math.MinInt, math.MaxInt} {
		full.refuses(api.ErrPos, pos, 0, 1)
		full.refuses(api.ErrPos, pos, 0, 0)
		full.refuses(api.ErrPos, pos, -1, 1)
		full.refuses(api.ErrPos, pos, math.MaxInt, math.MaxInt)
	}
	for _, pos := range []int{0, 1, 2, size - 1, size} {
		full.refuses(api.ErrArg, pos, 0, 0)
		full.refuses(api.ErrArg, pos, 0, api.MaxLength+1)
		full.refuses(api.ErrArg, pos, -1, 1)
		full.refuses(api.ErrArg, pos, api.MaxOffset+1, 1)
		full.refuses(api.ErrFull, pos, 0, 1)
	}

	some := rowOf(t, 3, 2)
	some.refuses(api.ErrPos, 7, 0, 0)
	some.refuses(api.ErrPos, -1, -1, -1)
	some.refuses(api.ErrArg, 6, 0, 0)
}

func TestP1NothingBesideAnError(t *testing.T) {
	// rowOf gives no piece the offset and length 0, so a piece of zeros is none of these.
	b := rowOf(t, api.MaxPieces, 3)
	size := b.tree.Size()
	for _, pos := range []int{math.MinInt, -1, size, size + 1, math.MaxInt} {
		if p, e := b.tree.Find(pos); e != api.ErrPos || p != (api.Piece{}) {
			t.Errorf("Find(%d) = %v, %d", pos, p, e)
		}
	}
	for _, c := range []struct {
		pos, n int
		want   api.Errno
	}{
		{-1, 1, api.ErrPos}, {0, -1, api.ErrPos}, {0, size + 1, api.ErrPos}, {size, 1, api.ErrPos},
		{size + 1, 0, api.ErrPos}, {size - 3, 4, api.ErrPos}, {1, 1, api.ErrFull},
	} {
		if list, e := b.tree.Delete(c.pos, c.n); e != c.want || len(list) != 0 {
			t.Errorf("Delete(%d, %d) = %v, %d, want %d and nothing", c.pos, c.n, list, e, c.want)
		}
	}
	b.same()
}
