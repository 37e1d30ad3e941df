package quill_test

import (
	"strings"
	"testing"

	"quill/api"
)

// TestP6TheExample is example 3 of the document.
func TestP6TheExample(t *testing.T) {
	b := opened(t, 100, 10, 10000)
	b.is("", 0)
	b.insert(api.OK, 0, "hello")
	b.insert(api.OK, 5, " you")
	b.delete(api.OK, 0, 1)
	b.is("ello you", 3)
	b.undo(api.OK)
	b.is("hello you", 4)
	b.undo(api.OK)
	b.is("hello", 5)
	b.redo(api.OK)
	b.is("hello you", 6)
	b.insert(api.OK, 0, "x")
	b.is("xhello you", 7)
	b.redo(api.ErrNothing)
	b.undoes("hello you", "hello", "")
}

func TestP6InsertPlaces(t *testing.T) {
	for pos, want := range []string{"XYabcd", "aXYbcd", "abXYcd", "abcXYd", "abcdXY"} {
		b := opened(t, 100, 10, 1000)
		b.insert(api.OK, 0, "abcd")
		b.insert(api.OK, pos, "XY")
		b.is(want, 2)
		b.undoes("abcd", "")
		b.redoes("abcd", want)
	}
}

// TestP6TextsAreBytes inserts what is no UTF-8, and every byte that there is.
func TestP6TextsAreBytes(t *testing.T) {
	all := make([]byte, 256)
	for i := range all {
		all[i] = byte(i)
	}
	b := opened(t, 1000, 10, 1000)
	b.insert(api.OK, 0, string(all[100:]))
	b.insert(api.OK, 0, string(all[:100]))
	b.is(string(all), 2)
	b.delete(api.OK, 128, 100)
	b.insert(api.OK, 1, "é")
	b.reopen()
	b.is("\x00é"+string(all[1:128])+string(all[228:]), 4)
	b.read(1, 1)
}

func TestP6InsertErrors(t *testing.T) {
	b := closed(t, 10, 3, 1000)
	b.insert(api.ErrClosed, 0, "a")
	b.open(api.OK)
	b.insert(api.ErrPos, 1, "a")
	b.insert(api.ErrPos, -1, "a")
	b.insert(api.OK, 0, "abc")
	for _, pos := range []int{-1, 4, 5, -1 << 63, 1<<63 - 1} {
		b.insert(api.ErrPos, pos, "a")
		b.insert(api.ErrPos, pos, "")
		b.insert(api.ErrPos, pos, strings.Repeat("a", 201))
	}
	for _, pos := range []int{0, 1, 3} {
		b.insert(api.ErrText, pos, "")
		b.insert(api.ErrText, pos, strings.Repeat("a", 201))
		b.insert(api.ErrLong, pos, strings.Repeat("a", 200))
		b.insert(api.ErrLong, pos, "12345678")
	}
	b.is("abc", 1)
	b.insert(api.OK, 3, "1234567")
	b.insert(api.ErrLong, 0, "x")
	b.is("abc1234567", 2)
	b.close(api.OK)
	b.insert(api.ErrClosed, 0, "a")
}

func TestP6InsertLongestText(t *testing.T) {
	b := opened(t, 5000, 3, 10000)
	long := strings.Repeat("abcdefghij", 20)
	b.insert(api.OK, 0, long)
	b.insert(api.ErrText, 0, long+"x")
	b.insert(api.OK, 100, long)
	b.is(long[:100]+long+long[100:], 2)
}

func TestP6DeletePlaces(t *testing.T) {
	for pos := range 6 {
		for n := 1; pos+n <= 6; n++ {
			b := opened(t, 100, 10, 1000)
			b.insert(api.OK, 0, "af")
			b.insert(api.OK, 1, "be")
			b.insert(api.OK, 2, "cd")
			b.delete(api.OK, pos, n)
			want := "abcdef"[:pos] + "abcdef"[pos+n:]
			b.is(want, 4)
			b.undoes("abcdef", "abef", "af", "")
			b.redoes("af", "abef", "abcdef", want)
		}
	}
}

func TestP6DeleteErrors(t *testing.T) {
	b := closed(t, 100, 3, 1000)
	b.delete(api.ErrClosed, 0, 1)
	b.open(api.OK)
	b.delete(api.ErrPos, 0, 1)
	b.delete(api.ErrPos, 0, 0)
	b.insert(api.OK, 0, "abcd")
	for _, c := range [][2]int{
		{-1, 1}, {-1, 2}, {0, 0}, {2, 0}, {4, 0}, {0, -1}, {2, -1}, {0, 5}, {1, 4}, {4, 1}, {5, 1}, {5, 0}, {5, -1},
		{1, 1<<63 - 1}, {1<<63 - 1, 1}, {1<<63 - 1, 1<<63 - 1}, {-1 << 63, -1 << 63}, {-1 << 63, 1<<63 - 1},
	} {
		b.delete(api.ErrPos, c[0], c[1])
	}
	b.is("abcd", 1)
	b.delete(api.OK, 0, 4)
	b.is("", 2)
	b.delete(api.ErrPos, 0, 1)
	b.undoes("abcd", "")
}

func TestP6ReadErrors(t *testing.T) {
	b := opened(t, 100, 3, 1000)
	b.insert(api.OK, 0, "cd")
	b.insert(api.OK, 0, "ab")
	b.insert(api.OK, 4, "ef")
	for pos := -2; pos <= 8; pos++ {
		for n := -2; n <= 8; n++ {
			b.read(pos, n)
		}
	}
	for _, c := range []struct {
		pos, n int
		want   string
	}{{0, 6, "abcdef"}, {1, 4, "bcde"}, {3, 1, "d"}, {6, 0, ""}, {0, 0, ""}} {
		if got, e := b.store.Read(c.pos, c.n); got != c.want || e != api.OK {
			t.Errorf("Read(%d, %d) = %q, %d, want %q", c.pos, c.n, got, e, c.want)
		}
	}
}

func TestP6UndoAndRedoErrors(t *testing.T) {
	b := closed(t, 100, 3, 1000)
	b.undo(api.ErrClosed)
	b.redo(api.ErrClosed)
	b.open(api.OK)
	b.undo(api.ErrNothing)
	b.redo(api.ErrNothing)
	b.insert(api.OK, 0, "a")
	b.redo(api.ErrNothing)
	b.undo(api.OK)
	b.undo(api.ErrNothing)
	b.redo(api.OK)
	b.redo(api.ErrNothing)
	b.is("a", 3)
}

// TestP6NothingAgainBehindAnEdit: an Insert and a Delete forget what could be done again.
func TestP6NothingAgainBehindAnEdit(t *testing.T) {
	for _, by := range []string{"insert", "delete"} {
		b := opened(t, 100, 5, 1000)
		b.insert(api.OK, 0, "abc")
		b.insert(api.OK, 3, "d")
		b.insert(api.OK, 4, "e")
		b.undo(api.OK)
		b.undo(api.OK)
		if by == "insert" {
			b.insert(api.OK, 0, "x")
			b.redo(api.ErrNothing)
			b.undoes("abc", "")
			b.redoes("abc", "xabc")
		} else {
			b.delete(api.OK, 0, 1)
			b.redo(api.ErrNothing)
			b.undoes("abc", "")
			b.redoes("abc", "bc")
		}
	}
}

// TestP6AgainBehindAnError: a call that is an error forgets nothing.
func TestP6AgainBehindAnError(t *testing.T) {
	b := opened(t, 5, 5, 1000)
	b.insert(api.OK, 0, "abc")
	b.insert(api.OK, 3, "d")
	b.undo(api.OK)
	b.insert(api.ErrPos, 4, "x")
	b.insert(api.ErrText, 0, "")
	b.insert(api.ErrLong, 0, "xyz")
	b.delete(api.ErrPos, 0, 4)
	b.delete(api.ErrPos, 0, 0)
	b.sync(api.OK)
	b.read(0, 9)
	b.is("abc", 3)
	b.redoes("abcd")
	b.undoes("abc", "")
}

// TestP6DepthCountsEachKind goes back and forth within a depth.
func TestP6DepthCountsEachKind(t *testing.T) {
	b := opened(t, 100, 2, 1000)
	for _, text := range []string{"a", "b", "c", "d"} {
		b.insert(api.OK, 0, text)
	}
	b.undoes("cba", "ba")
	b.redoes("cba", "dcba")
	b.undo(api.OK)
	b.insert(api.OK, 0, "e")
	b.undoes("cba", "ba")
	b.redoes("cba", "ecba")
	b.is("ecba", 4+2+2+1+1+2+2)
}

// TestP6DepthOfNothing: with the depth 0 no edit is kept at all.
func TestP6DepthOfNothing(t *testing.T) {
	b := opened(t, 100, 0, 1000)
	b.insert(api.OK, 0, "abc")
	b.undo(api.ErrNothing)
	b.delete(api.OK, 1, 1)
	b.undo(api.ErrNothing)
	b.redo(api.ErrNothing)
	b.reopen()
	b.undo(api.ErrNothing)
	b.is("ac", 2)
}

// TestP6DepthOfBothKinds: a checkpoint may bring as many of both kinds as the
// depth is; then going one way forgets the furthest off of the other.
func TestP6DepthOfBothKinds(t *testing.T) {
	c := saved{epoch: 1, done: 9, buffered: 6, text: of(0, 2)}
	c.undo = []edit{{1, nil, of(1, 1)}, {0, nil, of(0, 1)}}
	c.redo = []edit{{2, nil, of(2, 1)}, {3, nil, of(3, 1)}}
	b := loaded(t, 100, 2, 1000, 1, "abcdef", 2, c.bytes())
	b.open(api.OK)
	b.is("ab", 9)
	b.redoes("abc", "abcd")
	b.undoes("abc", "ab")
	b.close(api.OK)
	b.load(api.OK, filesOf(1, "abcdef", 2, c.bytes()))
	b.open(api.OK)
	b.undoes("a", "")
	b.redoes("a", "ab")
}

// TestP6UndoneAndDoneManyTimes: an edit stays what it is, however often it is undone.
func TestP6UndoneAndDoneManyTimes(t *testing.T) {
	b := opened(t, 100, 10, 10000)
	b.insert(api.OK, 0, "hello world")
	b.delete(api.OK, 2, 6)
	b.insert(api.OK, 2, "XYZ")
	b.delete(api.OK, 0, 4)
	for range 5 {
		b.undoes("heXYZrld", "herld", "hello world", "")
		b.redoes("hello world", "herld", "heXYZrld", "Zrld")
		b.reopen()
	}
	b.is("Zrld", 4+5*8)
}

// TestP6MostIsNotAskedToUndo: a text may be longer than `most` through Undo.
func TestP6MostIsNotAskedToUndo(t *testing.T) {
	b := loaded(t, 4, 5, 1000, 1, "abcdefgh", 10, record("I", 1, 0, 0, 8)+record("D", 2, 0, 6, 0))
	b.open(api.OK)
	b.is("gh", 2)
	b.undo(api.OK)
	b.is("abcdefgh", 3)
	b.insert(api.ErrLong, 0, "x")
	b.redo(api.OK)
	b.insert(api.ErrLong, 0, "xyz")
	b.insert(api.OK, 0, "xy")
	b.is("xygh", 5)
}

func TestP6CloseLeavesTheDisk(t *testing.T) {
	b := closed(t, 100, 3, 1000)
	b.close(api.ErrClosed)
	b.open(api.OK)
	b.insert(api.OK, 0, "abc")
	b.close(api.OK)
	b.has(1, "abc", 10, record("I", 1, 0, 0, 3))
	b.close(api.ErrClosed)
	b.open(api.OK)
	b.is("abc", 1)
}

// TestP6EditsOutliveClose: what can be undone and done again is there behind Open too.
func TestP6EditsOutliveClose(t *testing.T) {
	b := opened(t, 100, 10, 1000)
	b.insert(api.OK, 0, "abc")
	b.insert(api.OK, 1, "XY")
	b.delete(api.OK, 0, 2)
	b.undo(api.OK)
	b.undo(api.OK)
	b.reopen()
	b.redoes("aXYbc", "Ybc")
	b.reopen()
	b.undoes("aXYbc", "abc", "")
	b.reopen()
	b.redoes("abc", "aXYbc", "Ybc")
}
