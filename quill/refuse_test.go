package quill_test

import (
	"math"
	"slices"
	"strings"
	"testing"

	"quill/api"
)

// TestP9RefuseErrors: a number below 0 is wrong, and changes nothing of what was asked ahead.
func TestP9RefuseErrors(t *testing.T) {
	for _, after := range []int{-1, -2, math.MinInt} {
		b := closed(t, 100, 5, 1000)
		b.refuse(api.ErrArg, after)
		b.open(api.OK)
		b.refuse(api.ErrArg, after)
		b.insert(api.OK, 0, "hello")
		b.refuse(api.OK, 1)
		b.refuse(api.ErrArg, after)
		b.delete(api.OK, 0, 1)
		b.refuse(api.ErrArg, after)
		b.delete(api.ErrNoSpace, 0, 1)
		b.refuse(api.ErrArg, after)
		b.refused("ello", 2)
	}
}

// TestP9TheExample is example 6 of the document.
func TestP9TheExample(t *testing.T) {
	b := opened(t, 100, 10, 10000)
	b.refuse(api.OK, 1)
	b.insert(api.ErrNoSpace, 0, "ab")
	b.has(1, "ab")
	b.is("", 0)
	b.undo(api.ErrReadOnly)
	b.close(api.OK)
	b.has(1, "ab")
	b.open(api.OK)
	b.is("", 0)
	b.has()
	b.undoes()
}

// TestP9EachAppend has each of the 13 appends of all calls be refused once.
// Until then nothing is seen of it, and behind Close and Open all goes on.
func TestP9EachAppend(t *testing.T) {
	for after := range 13 {
		b, beside := opened(t, 100, 5, 1000), opened(t, 100, 5, 1000)
		b.refuse(api.OK, after)
		left := after
		for _, c := range changes() {
			if left < 0 || left >= c.appends {
				c.make(b, api.OK)
				c.make(beside, api.OK)
				if !slices.Equal(b.store.Image(), beside.store.Image()) {
					t.Fatalf("Refuse(%d) was seen in the files behind %s", after, c.name)
				}
				left -= c.appends
				continue
			}
			text, done := b.model.string(), b.model.done
			c.make(b, api.ErrNoSpace)
			b.refused(text, done)
			if !slices.Equal(b.store.Image(), beside.store.Image()) {
				t.Fatalf("behind %s, refused, Close and Open the disk is not as it was", c.name)
			}
			c.make(b, api.OK)
			c.make(beside, api.OK)
			left = -1
		}
		b.is("heXYZllo!", 7)
		b.undoes("heXYZllo", "hello", "")
	}
}

// TestP9ARefusedAppendChangesNothing: of an Insert whose record is refused the
// text stays in file 1; all other bytes of the disk are what they were.
func TestP9ARefusedAppendChangesNothing(t *testing.T) {
	first := record("I", 1, 0, 0, 5) + record("D", 2, 0, 1, 0) + record("U", 3, 0, 0, 0)
	prepared := func(after int) *both {
		b := opened(t, 100, 5, 1000)
		b.insert(api.OK, 0, "hello")
		b.delete(api.OK, 0, 1)
		b.undo(api.OK)
		b.refuse(api.OK, after)
		return b
	}
	for _, c := range []struct {
		after int
		make  func(b *both)
		one   string
	}{
		{0, func(b *both) { b.insert(api.ErrNoSpace, 2, "xyz") }, "hello"},
		{1, func(b *both) { b.insert(api.ErrNoSpace, 2, "xyz") }, "helloxyz"},
		{0, func(b *both) { b.delete(api.ErrNoSpace, 2, 1) }, "hello"},
		{0, func(b *both) { b.undo(api.ErrNoSpace) }, "hello"},
		{0, func(b *both) { b.redo(api.ErrNoSpace) }, "hello"},
	} {
		b := prepared(c.after)
		c.make(b)
		b.has(1, c.one, 10, first)
		b.refused("hello", 3)
		b.has(1, "hello", 10, first)
		b.redoes("ello")
		b.undoes("hello", "")
	}
}

// TestP9ReadOnlyUntilClose: neither another Refuse nor a Crash ends it.
func TestP9ReadOnlyUntilClose(t *testing.T) {
	b := opened(t, 100, 5, 1000)
	b.insert(api.OK, 0, "hello")
	b.refuse(api.OK, 0)
	b.undo(api.ErrNoSpace)
	b.refuse(api.OK, 99)
	b.crash(api.OK, 0, 0, 0)
	b.undo(api.ErrReadOnly)
	b.sync(api.ErrReadOnly)
	b.crash(api.OK, 99, 0, 0)
	b.refused("hello", 1)
	b.undoes("")
}

// TestP9ARefusalThatHasComeIsOver: the next ones are done.
func TestP9ARefusalThatHasComeIsOver(t *testing.T) {
	b := opened(t, 1000, 5, 10000)
	b.refuse(api.OK, 0)
	b.insert(api.ErrNoSpace, 0, "hello")
	b.reopen()
	for range 50 {
		b.insert(api.OK, 0, "hello")
	}
}

func TestP9AnotherRefuseTakesItsPlace(t *testing.T) {
	for _, c := range []struct{ first, second int }{{0, 2}, {3, 2}, {2, 2}, {math.MaxInt, 2}, {1, 0}, {0, 0}, {0, 5}, {5, 1}} {
		b := opened(t, 1000, 5, 10000)
		b.insert(api.OK, 0, "0123456789")
		b.refuse(api.OK, c.first)
		b.refuse(api.OK, c.second)
		for range c.second {
			b.delete(api.OK, 0, 1)
		}
		b.delete(api.ErrNoSpace, 0, 1)
		b.reopen()
		for range 4 { // so of the first one nothing is left
			b.delete(api.OK, 0, 1)
		}
	}
	b := opened(t, 1000, 5, 10000)
	b.insert(api.OK, 0, "0123456789")
	b.refuse(api.OK, 2)
	b.delete(api.OK, 0, 1)
	b.refuse(api.OK, 2) // counts from here on
	b.delete(api.OK, 0, 1)
	b.delete(api.OK, 0, 1)
	b.delete(api.ErrNoSpace, 0, 1)
}

// TestP9WhileClosed: it can be asked then, and lasts over Close, Open and Load.
func TestP9WhileClosed(t *testing.T) {
	b := closed(t, 100, 5, 1000)
	b.refuse(api.OK, 5)
	b.open(api.OK)
	b.insert(api.OK, 0, "hello") // two of them
	b.reopen()
	b.delete(api.OK, 0, 1)
	b.close(api.OK)
	b.load(api.OK, filesOf(1, "abc", 4, "x", 10, record("I", 1, 0, 0, 3)))
	b.load(api.ErrArg, filesOf(4, ""))
	b.open(api.OK) // with a file to remove, which is no append
	b.delete(api.OK, 0, 1)
	b.sync(api.OK) // neither is this
	b.undo(api.OK)
	b.close(api.OK)
	b.refuse(api.OK, 1)
	b.refuse(api.ErrArg, -1)
	b.open(api.OK)
	b.redo(api.OK)
	b.undo(api.ErrNoSpace)
	b.close(api.OK)
	b.refuse(api.OK, 0)
	b.open(api.OK)
	b.insert(api.ErrNoSpace, 0, "x")
	b.has(1, "abc", 10, record("I", 1, 0, 0, 3)+record("D", 2, 0, 1, 0)+record("U", 3, 0, 0, 0)+record("R", 4, 0, 0, 0))
}

// TestP9ErrorsAreNotCounted: calls that answer an error ahead of their appends count none.
func TestP9ErrorsAreNotCounted(t *testing.T) {
	b := opened(t, 8, 5, 1000)
	b.refuse(api.OK, 2)
	b.insert(api.ErrPos, 1, "a")
	b.insert(api.ErrText, 0, "")
	b.insert(api.ErrLong, 0, "123456789")
	b.delete(api.ErrPos, 0, 1)
	b.undo(api.ErrNothing)
	b.redo(api.ErrNothing)
	b.open(api.ErrOpen)
	b.load(api.ErrOpen, nil)
	b.insert(api.OK, 0, "hello")
	b.insert(api.ErrLong, 0, "1234")
	b.insert(api.ErrNoSpace, 0, "123")
	b.has(1, "hello", 10, record("I", 1, 0, 0, 5))
}

// TestP9NoRoomIsNotCounted: an append for which there is no room is refused, and
// none of those that are counted.
func TestP9NoRoomIsNotCounted(t *testing.T) {
	b := opened(t, 100, 5, 60)
	b.refuse(api.OK, 1)
	for range 3 {
		b.insert(api.ErrNoSpace, 0, strings.Repeat("x", 61))
		b.has()
		b.reopen()
	}
	b.insert(api.ErrNoSpace, 0, "a")
	b.has(1, "a") // the one that was counted
	b.reopen()
	b.has()
	b.insert(api.OK, 0, "a")
	b = opened(t, 100, 5, 60)
	b.refuse(api.OK, 2)
	b.insert(api.ErrNoSpace, 0, strings.Repeat("x", 39)) // its text is counted, its record is not
	b.has(1, strings.Repeat("x", 39))
	b.reopen()
	b.insert(api.ErrNoSpace, 0, "a")
	b.has(1, "a")
	b.reopen()
	b.insert(api.OK, 0, "b")
}

// TestP9NoRoomIsTheRefusal: where it is the next one, that was it.
func TestP9NoRoomIsTheRefusal(t *testing.T) {
	b := opened(t, 100, 5, 60)
	b.refuse(api.OK, 0)
	b.insert(api.ErrNoSpace, 0, strings.Repeat("x", 61))
	b.has()
	b.reopen()
	b.insert(api.OK, 0, "a")
	b.insert(api.OK, 0, "b")
	b = opened(t, 100, 5, 60)
	b.refuse(api.OK, 1)
	b.insert(api.ErrNoSpace, 0, strings.Repeat("x", 39))
	b.has(1, strings.Repeat("x", 39))
	b.reopen()
	b.has()
	b.insert(api.OK, 0, "a")
	b.insert(api.OK, 0, "b")
	b = opened(t, 100, 5, 60)
	b.refuse(api.OK, 1)
	b.insert(api.ErrNoSpace, 0, strings.Repeat("x", 61)) // none
	b.reopen()
	b.insert(api.ErrNoSpace, 0, strings.Repeat("x", 39)) // one, and the refusal
	b.reopen()
	b.insert(api.OK, 0, "a")
}

// TestP9WhatHasJustTheRoom is done, and counted.
func TestP9WhatHasJustTheRoom(t *testing.T) {
	b := opened(t, 100, 5, 60)
	b.refuse(api.OK, 2)
	b.insert(api.OK, 0, strings.Repeat("x", 38))
	b.undo(api.ErrNoSpace) // for want of room, and it was the refusal
	b.close(api.OK)
	b.load(api.OK, nil)
	b.open(api.OK)
	b.insert(api.OK, 0, "a")
}

// TestP9ACrashCounts: an append ahead of which the machine stops is one of those.
func TestP9ACrashCounts(t *testing.T) {
	for after, want := range []api.Errno{api.ErrNoSpace, api.ErrCrashed, api.ErrCrashed, api.ErrCrashed} {
		b := opened(t, 100, 5, 1000)
		b.insert(api.OK, 0, "hello")
		b.sync(api.OK)
		b.refuse(api.OK, after)
		b.crash(api.OK, 0, 9, 99)
		b.delete(want, 0, 1)
		if want == api.ErrNoSpace {
			b.close(api.OK)
			b.open(api.OK)
			b.delete(api.ErrCrashed, 0, 1) // it was no step, so the crash is still to come
			b.open(api.OK)
			b.delete(api.OK, 0, 1)
			continue
		}
		b.open(api.OK)
		b.is("hello", 1)
		for range after - 1 {
			b.delete(api.OK, 0, 1)
		}
		b.delete(api.ErrNoSpace, 0, 1)
	}
}

// TestP9ACrashWithinAnInsertCounts: ahead of its record.
func TestP9ACrashWithinAnInsertCounts(t *testing.T) {
	b := opened(t, 100, 5, 1000)
	b.refuse(api.OK, 2)
	b.crash(api.OK, 1, 9, 99)
	b.insert(api.ErrCrashed, 0, "hello")
	b.has(1, "hello")
	b.open(api.OK)
	b.has()
	b.insert(api.ErrNoSpace, 0, "hello")
	b.has()
	b = opened(t, 100, 5, 1000)
	b.refuse(api.OK, 1)
	b.crash(api.OK, 1, 9, 99)
	b.insert(api.ErrNoSpace, 0, "hello") // the refusal comes where the crash would
	b.has(1, "hello")
	b.close(api.OK)
	b.open(api.ErrCrashed) // ahead of removing file 1
	b.has(1, "hello")
	b.open(api.OK)
	b.has()
}

// TestP9OtherStepsAreNotCounted: flushing, cutting and removing, and the crash ahead of these.
func TestP9OtherStepsAreNotCounted(t *testing.T) {
	b := loaded(t, 100, 5, 1000, 1, "hello you", 3, "x", 4, "y", 10, record("I", 1, 0, 0, 5)+"z")
	b.refuse(api.OK, 1)
	b.crash(api.OK, 1, 0, 0)
	b.open(api.ErrCrashed)
	b.open(api.OK)
	b.sync(api.OK)
	b.crash(api.OK, 0, 0, 0)
	b.sync(api.ErrCrashed)
	b.open(api.OK)
	b.delete(api.OK, 0, 1)
	b.undo(api.ErrNoSpace)
}
