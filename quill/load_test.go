package quill_test

import (
	"math"
	"strings"
	"testing"

	"quill/api"
)

// rowOfFiles is so many files of one byte each.
func rowOfFiles(count int) []api.File {
	var list []api.File
	for i := range count {
		list = append(list, api.File{Number: 3 * i, Bytes: "x"})
	}
	return list
}

func TestP11ImageAtAnyTime(t *testing.T) {
	b := closed(t, 100, 5, 49)
	b.has()
	b.open(api.OK)
	b.has()
	b.insert(api.OK, 0, "hello")
	b.has(1, "hello", 10, record("I", 1, 0, 0, 5))
	b.insert(api.ErrNoSpace, 0, "x")
	b.has(1, "hellox", 10, record("I", 1, 0, 0, 5))
	b.close(api.OK)
	b.has(1, "hellox", 10, record("I", 1, 0, 0, 5))
	b.open(api.OK)
	b.has(1, "hello", 10, record("I", 1, 0, 0, 5))
	b.close(api.OK)
	b.load(api.OK, filesOf(0, "a", 2, "spoilt", 77, "b"))
	b.has(0, "a", 2, "spoilt", 77, "b")
	b.open(api.ErrSpoilt)
	b.has(0, "a", 2, "spoilt", 77, "b")
}

// TestP11ImageIsInOrder: a file that is made later has its place by its number.
func TestP11ImageIsInOrder(t *testing.T) {
	file := saved{epoch: 5, buffered: 0}.bytes()
	b := loaded(t, 100, 5, 1000, 2, file)
	b.open(api.OK)
	b.insert(api.OK, 0, "ab")
	b.has(1, "ab", 2, file, 15, record("I", 1, 0, 0, 2))
}

func TestP11LoadOfAnOpenStore(t *testing.T) {
	b := opened(t, 100, 5, 100)
	b.insert(api.OK, 0, "hello")
	b.load(api.ErrOpen, nil)
	b.load(api.ErrOpen, filesOf(1, "x"))
	b.load(api.ErrOpen, filesOf(-1, ""))
	b.load(api.ErrOpen, make([]api.File, 41))
	b.is("hello", 1)
}

func TestP11LoadNumbers(t *testing.T) {
	for _, c := range []struct {
		want    api.Errno
		numbers []int
	}{
		{api.OK, []int{0}}, {api.OK, []int{math.MaxInt}}, {api.OK, []int{0, 1, 2, 3, math.MaxInt}},
		{api.OK, []int{7, 8}}, {api.ErrArg, []int{-1}}, {api.ErrArg, []int{math.MinInt}},
		{api.ErrArg, []int{-2, -1, 5}}, {api.ErrArg, []int{-1, 5}}, {api.ErrArg, []int{5, 5}},
		{api.ErrArg, []int{5, 4}}, {api.ErrArg, []int{0, 0}}, {api.ErrArg, []int{1, 2, 3, 3}},
		{api.ErrArg, []int{1, 3, 2}}, {api.ErrArg, []int{1, 2, -3}}, {api.ErrArg, []int{2, 1, 3}},
	} {
		var list []api.File
		for _, n := range c.numbers {
			list = append(list, api.File{Number: n, Bytes: "x"})
		}
		b := loaded(t, 100, 5, 1000, 4, "before")
		b.load(c.want, list)
		if c.want == api.ErrArg {
			b.has(4, "before")
		}
	}
}

func TestP11LoadOfFilesWithoutBytes(t *testing.T) {
	b := loaded(t, 100, 5, 1000, 4, "before")
	b.load(api.ErrArg, filesOf(1, ""))
	b.load(api.ErrArg, filesOf(1, "x", 2, ""))
	b.load(api.ErrArg, filesOf(1, "", 2, "x"))
	b.load(api.ErrArg, filesOf(1, "x", 2, "", 3, "x"))
	b.has(4, "before")
	b.load(api.OK, filesOf(1, "\x00"))
	b.has(1, "\x00")
}

func TestP11LoadOfManyFiles(t *testing.T) {
	b := closed(t, 100, 5, 1000)
	b.load(api.OK, rowOfFiles(39))
	b.load(api.OK, rowOfFiles(40))
	b.load(api.ErrArg, rowOfFiles(41))
	b.load(api.ErrArg, rowOfFiles(1000))
	if n := len(b.store.Image()); n != 40 {
		t.Errorf("%d files, want 40", n)
	}
}

func TestP11LoadFillsTheRoom(t *testing.T) {
	b := closed(t, 100, 5, 30)
	ten := strings.Repeat("x", 10)
	b.load(api.OK, filesOf(1, ten, 5, ten, 7, ten))
	b.load(api.ErrArg, filesOf(1, ten, 5, ten, 7, ten, 8, "x"))
	b.load(api.ErrArg, filesOf(1, ten, 5, ten+"x", 7, ten))
	b.load(api.ErrArg, filesOf(1, ten+ten+ten+"x"))
	b.has(1, ten, 5, ten, 7, ten)
	b.load(api.OK, filesOf(1, ten+ten+ten))
	b.has(1, ten+ten+ten)
}

// TestP11LoadReplacesAll: what was there is there no more, and takes no room.
func TestP11LoadReplacesAll(t *testing.T) {
	b := opened(t, 100, 5, 60)
	b.insert(api.OK, 0, strings.Repeat("a", 30))
	b.close(api.OK)
	b.load(api.OK, filesOf(1, "hello", 10, record("I", 1, 0, 0, 5)))
	b.open(api.OK)
	b.is("hello", 1)
	b.insert(api.OK, 5, "12345")
	b.close(api.OK)
	b.load(api.OK, nil)
	b.has()
	b.open(api.OK)
	b.is("", 0)
	b.insert(api.OK, 0, strings.Repeat("b", 38))
}

// TestP11LoadedFilesTakeRoom: what Load brings counts as what was appended does.
func TestP11LoadedFilesTakeRoom(t *testing.T) {
	b := loaded(t, 100, 5, 27+22, 1, "hello", 10, record("I", 1, 0, 0, 5))
	b.open(api.OK)
	b.delete(api.OK, 0, 1)
	b.delete(api.ErrNoSpace, 0, 1)
}
