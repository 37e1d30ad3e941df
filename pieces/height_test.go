package pieces_test

import (
	"math/bits"
	"math/rand"
	"testing"

	"quill/api"
	"quill/pieces"
)

// low looks at the height of a tree that should have so many pieces.
func low(t *testing.T, x *pieces.Tree, count int) {
	t.Helper()
	if h := x.Height(); count == 0 && h != 0 || count > 0 && (h < 1 || h > 2*bits.Len(uint(count))) {
		t.Fatalf("%d pieces, height %d", count, h)
	}
}

// grown is a tree of so many pieces of one length; place says where the next
// one goes, in pieces. The height is looked at behind each.
func grown(t *testing.T, count, length int, place func(have int) int) *pieces.Tree {
	t.Helper()
	x := pieces.New()
	low(t, x, 0)
	for i := range count {
		if e := x.Insert(place(i)*length, api.Piece{Off: i, Len: length}); e != api.OK {
			t.Fatalf("piece %d: %d", i, e)
		}
		low(t, x, i+1)
	}
	if n := len(x.Pieces()); n != count {
		t.Fatalf("%d pieces, want %d", n, count)
	}
	return x
}

// places is ways to say which of the pieces (or gaps) from 0 to n is meant.
func places() map[string]func(n int) int {
	r := rand.New(rand.NewSource(4))
	turn := 0
	return map[string]func(n int) int{
		"at the beginning": func(n int) int { return 0 },
		"at the end":       func(n int) int { return n },
		"in the midst":     func(n int) int { return n / 2 },
		"at a third":       func(n int) int { return n / 3 },
		"near the end":     func(n int) int { return max(n-1, 0) },
		"drawn":            func(n int) int { return r.Intn(n + 1) },
		"at both ends": func(n int) int {
			turn++
			return n * (turn % 2)
		},
		"at both sides of the midst": func(n int) int {
			turn++
			return (n + turn%2) / 2
		},
	}
}

func TestP4GrownAndTakenOut(t *testing.T) {
	for in, placeIn := range places() {
		for out, placeOut := range places() {
			t.Run("in "+in+", out "+out, func(t *testing.T) {
				x := grown(t, api.MaxPieces, 1, placeIn)
				for left := api.MaxPieces - 1; left >= 0; left-- {
					if _, e := x.Delete(placeOut(left), 1); e != api.OK {
						t.Fatalf("%d left: %d", left, e)
					}
					low(t, x, left)
				}
			})
		}
	}
}

// TestP4FewLeft: nearly all goes at once, and what stays lay in one place or
// in two, at the ends or within.
func TestP4FewLeft(t *testing.T) {
	for name, place := range places() {
		for _, count := range []int{1, 2, 3, 7, 100, 1500} {
			for left := range min(count, 9) {
				for ahead := range left + 1 {
					x := pieces.New()
					for i := range count {
						x.Insert(place(i), api.Piece{Off: i, Len: 1})
					}
					if _, e := x.Delete(ahead, count-left); e != api.OK {
						t.Fatalf("%s: %d", name, e)
					}
					low(t, x, left)
				}
			}
		}
	}
}

// TestP4ThinnedOut: of each few pieces one goes, again and again.
func TestP4ThinnedOut(t *testing.T) {
	for _, step := range []int{2, 3, 5, 17} {
		for name, place := range places() {
			x := grown(t, api.MaxPieces, 2, place)
			left := api.MaxPieces
			for left >= step {
				for pos := 0; pos+step <= left; pos += step - 1 {
					if _, e := x.Delete(2*pos, 2); e != api.OK {
						t.Fatalf("%s: Delete(%d, 2): %d", name, 2*pos, e)
					}
					left--
					low(t, x, left)
				}
			}
		}
	}
}

// TestP4SplitByInserts: one long piece is cut into many by what is laid into it.
func TestP4SplitByInserts(t *testing.T) {
	r := rand.New(rand.NewSource(5))
	for name, place := range map[string]func(i int) int{
		"from its beginning": func(i int) int { return 1 + 2*i },
		"from its end":       func(i int) int { return api.MaxLength - 1 - i },
		"from its midst":     func(i int) int { return 2500 + i - i%2*2*i },
		"drawn":              func(i int) int { return r.Intn(api.MaxLength + i) },
	} {
		t.Run(name, func(t *testing.T) {
			b := newBoth(t)
			b.lies(0, 0, api.MaxLength)
			for i := range 1200 {
				b.lies(place(i), 9000, 1)
				b.lowEnough()
			}
			b.same()
		})
	}
}

// TestP4SplitByDeletes: one long piece is cut into many by what is taken out of it.
func TestP4SplitByDeletes(t *testing.T) {
	b := newBoth(t)
	b.lies(0, 0, api.MaxLength)
	for pos := 1; pos+1 < b.tree.Size(); pos++ {
		b.delete(pos, 1)
		b.lowEnough()
	}
	b.same()
	if len(b.model.list) != 2500 {
		t.Fatalf("%d pieces", len(b.model.list))
	}
}

// TestP4Drawn: single pieces and great stretches come and go as drawn.
func TestP4Drawn(t *testing.T) {
	for seed := range int64(8) {
		r := rand.New(rand.NewSource(seed))
		b := newBoth(t)
		for range 3000 {
			size := b.tree.Size()
			pos := r.Intn(size + 1)
			switch {
			case r.Intn(200) == 0:
				b.delete(pos, r.Intn(size-pos+1))
			case r.Intn(5) == 0:
				b.delete(pos, min(r.Intn(40), size-pos))
			default:
				b.insert(pos, api.Piece{Off: r.Intn(1000), Len: 1 + r.Intn(20)})
			}
			b.lowEnough()
		}
		b.same()
		b.delete(0, b.tree.Size())
		b.same()
	}
}

// burst is a run of calls of one kind at one place, which is told anew from
// the size each time.
func burst(t *testing.T, r *rand.Rand, x *pieces.Tree, most int) {
	t.Helper()
	part, near := r.Float64(), r.Intn(3)
	spot := []func(size int) int{
		func(size int) int { return min(near, size) },
		func(size int) int { return max(size-near, 0) },
		func(size int) int { return int(part * float64(size)) },
		func(size int) int { return r.Intn(size + 1) },
	}[r.Intn(4)]
	comes, length, takes := r.Intn(5) < 3, 1+r.Intn(6), 1+r.Intn(9)
	for range 1 + r.Intn(2*most) {
		size := x.Size()
		pos := spot(size)
		if comes && len(x.Pieces()) < most {
			x.Insert(pos, api.Piece{Off: 5, Len: length})
		} else {
			x.Delete(pos, min(takes, size-pos))
		}
		low(t, x, len(x.Pieces()))
	}
}

// TestP4Bursts: in small trees, where a few nodes above one another are soon
// too many, and in greater ones.
func TestP4Bursts(t *testing.T) {
	for _, c := range []struct{ most, rounds int }{{10, 4000}, {20, 2000}, {40, 500}, {300, 40}, {2000, 4}} {
		r := rand.New(rand.NewSource(int64(c.most)))
		x := pieces.New()
		for range c.rounds {
			burst(t, r, x, c.most)
		}
	}
}
