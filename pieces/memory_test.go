package pieces_test

import (
	"math/rand"
	"reflect"
	"slices"
	"testing"

	"quill/api"
	"quill/pieces"
)

// drawnCall does one call with drawn numbers; now and then they are wrong ones.
func (b *both) drawnCall(r *rand.Rand) []api.Piece {
	b.t.Helper()
	size := sizeOf(b.model.list)
	pos := r.Intn(size+3) - 1
	switch r.Intn(6) {
	case 0, 1, 2:
		b.insert(pos, api.Piece{Off: r.Intn(1000), Len: r.Intn(12)})
	case 3, 4:
		list, _ := b.delete(pos, r.Intn(30)-1)
		return list
	default:
		b.find(pos)
	}
	return nil
}

func TestP2TreesBesideOneAnother(t *testing.T) {
	r := rand.New(rand.NewSource(2))
	var trees []*both
	for range 6 {
		trees = append(trees, newBoth(t))
	}
	for range 6000 {
		trees[r.Intn(len(trees))].drawnCall(r)
	}
	for _, b := range trees {
		b.same()
		b.findEverywhere()
	}
	trees[0].delete(0, trees[0].tree.Size())
	for _, b := range trees {
		b.same()
	}
}

// told does the calls that the seed draws, and writes down every answer;
// between them it does what beside does.
func told(seed int64, beside func()) []any {
	r := rand.New(rand.NewSource(seed))
	x := pieces.New()
	var out []any
	for range 400 {
		pos := r.Intn(x.Size()+3) - 1
		if r.Intn(3) > 0 {
			out = append(out, x.Insert(pos, api.Piece{Off: r.Intn(50), Len: r.Intn(9)}))
		} else {
			list, e := x.Delete(pos, r.Intn(15))
			out = append(out, append([]api.Piece{}, list...), e)
		}
		beside()
		p, e := x.Find(pos)
		out = append(out, p, e, x.Size(), x.Height(), append([]api.Piece{}, x.Pieces()...))
	}
	return out
}

func TestP2SameCallsSameAnswers(t *testing.T) {
	for seed := range int64(5) {
		alone := told(seed, func() {})
		other := newBoth(t)
		r := rand.New(rand.NewSource(seed + 100))
		amid := told(seed, func() { other.drawnCall(r) })
		if !reflect.DeepEqual(alone, amid) {
			t.Fatal("the answers hang on the calls of another tree")
		}
	}
}

// kept is a list that came out, to the end of its spare room, and what stood there.
type kept struct {
	list []api.Piece
	was  []api.Piece
}

func keep(list []api.Piece) kept {
	whole := list[:cap(list)]
	return kept{whole, slices.Clone(whole)}
}

func (k *kept) scribble() {
	for i := range k.list {
		k.list[i] = api.Piece{Off: -7, Len: -7}
	}
	k.was = slices.Clone(k.list)
}

func unchanged(t *testing.T, lists []kept) {
	t.Helper()
	for i, k := range lists {
		if !slices.Equal(k.list, k.was) {
			t.Fatalf("list %d was %v, and is %v", i, k.was, k.list)
		}
	}
}

func TestP2AnswersAreNewMemory(t *testing.T) {
	for seed := range int64(10) {
		r := rand.New(rand.NewSource(seed))
		b := newBoth(t)
		var lists []kept
		for range 60 {
			for range 4 {
				b.drawnCall(r)
			}
			gone, _ := b.delete(r.Intn(b.tree.Size()+1), 0)
			lists = append(lists, keep(gone), keep(b.drawnCall(r)), keep(b.tree.Pieces()), keep(b.tree.Pieces()))
			unchanged(t, lists)
			lists[r.Intn(len(lists))].scribble()
			lists[len(lists)-1-r.Intn(4)].scribble()
			unchanged(t, lists)
			b.same()
			b.findEverywhere()
		}
	}
}

func TestP2WhatWentIsNewMemory(t *testing.T) {
	for pos := range 13 {
		for n := range 13 - pos {
			b := holding(t, of(10, 3, 20, 1, 30, 4, 40, 2, 50, 2))
			before := keep(b.tree.Pieces())
			list, _ := b.delete(pos, n)
			gone := keep(list)
			after := keep(b.tree.Pieces())
			lists := []kept{before, gone, after}
			for i := range lists {
				lists[i].scribble()
				unchanged(t, lists)
				b.same()
			}
			b.insert(b.tree.Size()/2, api.Piece{Off: 90, Len: 2})
			b.delete(0, 1)
			b.same()
			unchanged(t, lists)
		}
	}
}

func TestP2ListsBesideAnErrorAreNewMemory(t *testing.T) {
	b := rowOf(t, api.MaxPieces, 3)
	var lists []kept
	for _, c := range [][2]int{{-1, 1}, {0, -1}, {0, b.tree.Size() + 1}, {1, 1}, {4, 1}} {
		list, _ := b.delete(c[0], c[1])
		lists = append(lists, keep(list))
	}
	for i := range lists {
		lists[i].scribble()
		unchanged(t, lists)
		b.same()
	}
}

// TestP2EmptyListsAreNewMemory: what is laid behind an empty list is seen nowhere else.
func TestP2EmptyListsAreNewMemory(t *testing.T) {
	b := newBoth(t)
	first := append(b.tree.Pieces(), of(1, 1)...)
	second := append(b.tree.Pieces(), of(2, 2)...)
	gone, _ := b.delete(0, 0)
	third := append(gone, of(3, 3)...)
	if first[0] != (api.Piece{Off: 1, Len: 1}) || second[0] != (api.Piece{Off: 2, Len: 2}) || third[0] != (api.Piece{Off: 3, Len: 3}) {
		t.Fatalf("%v %v %v", first, second, third)
	}
	b.same()
}
