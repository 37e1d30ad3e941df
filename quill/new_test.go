package quill_test

import (
	"strings"
	"testing"

	"quill/api"
	"quill/quill"
)

func TestP5NumbersBeyondTheEdges(t *testing.T) {
	for _, c := range [][3]int{
		{-1, 10, 1000}, {5001, 10, 1000}, {100, -1, 1000}, {100, 51, 1000}, {100, 10, -1}, {100, 10, 1000001},
		{-1, -1, -1}, {5001, 51, 1000001},
	} {
		if s, e := quill.New(c[0], c[1], c[2]); s != nil || e != api.ErrArg {
			t.Errorf("New(%v) = %v, %d, want ErrArg", c, s != nil, e)
		}
	}
}

func TestP5NumbersAtTheEdges(t *testing.T) {
	for _, most := range []int{0, 1, 4999, 5000} {
		for _, depth := range []int{0, 1, 49, 50} {
			for _, room := range []int{0, 1, 999999, 1000000} {
				b := closed(t, most, depth, room)
				b.has()
				b.sync(api.ErrClosed)
				b.load(api.OK, nil) // so it is not open
			}
		}
	}
}

// TestP5MostIsAsItSays fills texts to their greatest length.
func TestP5MostIsAsItSays(t *testing.T) {
	for _, most := range []int{0, 1, 200, 201, 5000} {
		b := opened(t, most, 0, 10000)
		for left := most; left > 0; left -= 200 {
			b.insert(api.OK, 0, strings.Repeat("a", min(left, 200)))
		}
		b.insert(api.ErrLong, 0, "b")
		b.is(strings.Repeat("a", most), (most+199)/200)
	}
}

// TestP5DepthIsAsItSays undoes as often as it may be.
func TestP5DepthIsAsItSays(t *testing.T) {
	for _, depth := range []int{0, 1, 2, 49, 50} {
		b := opened(t, 100, depth, 10000)
		for range 60 {
			b.insert(api.OK, 0, "a")
		}
		for range depth {
			b.undo(api.OK)
		}
		b.undo(api.ErrNothing)
		b.is(strings.Repeat("a", 60-depth), 60+depth)
	}
}

// TestP5RoomIsAsItSays fills disks to their last byte.
func TestP5RoomIsAsItSays(t *testing.T) {
	for _, room := range []int{23, 24, 100, 122} {
		b := opened(t, 5000, 1, room)
		b.insert(api.OK, 0, strings.Repeat("a", room-22))
		b.sync(api.OK)
		b.delete(api.ErrNoSpace, 0, 1)
		b = opened(t, 5000, 1, room)
		b.insert(api.ErrNoSpace, 0, strings.Repeat("a", room-21))
	}
	b := closed(t, 5000, 1, 1000000)
	b.load(api.OK, filesOf(5, strings.Repeat("a", 1000000)))
	b.load(api.ErrArg, filesOf(5, strings.Repeat("a", 1000001)))
	b = closed(t, 5000, 1, 0)
	b.load(api.ErrArg, filesOf(5, "a"))
	b.open(api.OK)
	b.insert(api.ErrNoSpace, 0, "a")
	b.has()
}
