package quill_test

import (
	"fmt"
	"math"
	"strings"
	"testing"

	"quill/api"
)

// many is more bytes than any file of these tests has.
const many = 1 << 40

// TestP10CrashErrors: a number below 0 is wrong, and changes nothing of what was asked ahead.
func TestP10CrashErrors(t *testing.T) {
	for _, wrong := range [][3]int{
		{-1, 0, 0}, {0, -1, 0}, {0, 0, -1}, {-1, -1, -1}, {math.MinInt, 5, 5}, {5, math.MinInt, 5}, {5, 5, math.MinInt},
	} {
		b := closed(t, 100, 5, 1000)
		b.crash(api.ErrArg, wrong[0], wrong[1], wrong[2])
		b.open(api.OK)
		b.crash(api.ErrArg, wrong[0], wrong[1], wrong[2])
		b.insert(api.OK, 0, "hello")
		b.crash(api.OK, 1, 3, 21)
		b.crash(api.ErrArg, wrong[0], wrong[1], wrong[2])
		b.delete(api.OK, 0, 1)
		b.crash(api.ErrArg, wrong[0], wrong[1], wrong[2])
		b.delete(api.ErrCrashed, 0, 1)
		b.crash(api.ErrArg, wrong[0], wrong[1], wrong[2])
		b.has(1, "hel", 10, record("I", 1, 0, 0, 5)[:21])
		b.open(api.OK)
	}
}

// TestP10TheExamples is example 5 of the document.
func TestP10TheExamples(t *testing.T) {
	b := opened(t, 100, 10, 10000)
	b.crash(api.OK, 1, 0, 99)
	b.insert(api.ErrCrashed, 0, "ab")
	b.has()
	b.open(api.OK)
	b.is("", 0)
	b.crash(api.OK, 2, 1, 99)
	b.insert(api.OK, 0, "ab")
	b.undo(api.ErrCrashed)
	b.has(1, "a", 10, record("I", 1, 0, 0, 2))
	b.open(api.OK)
	b.is("", 0)
	b.has()
}

// isClosed looks that a store is closed: no call that needs an open one does anything.
func (b *both) isClosed() {
	b.t.Helper()
	b.insert(api.ErrClosed, 0, "x")
	b.delete(api.ErrClosed, 0, 1)
	b.undo(api.ErrClosed)
	b.redo(api.ErrClosed)
	b.sync(api.ErrClosed)
	b.checkpoint(api.ErrClosed)
	b.close(api.ErrClosed)
	b.tellsNothing()
}

// TestP10ARefusedAppendIsNoStep: neither one that was asked for, nor one for want of room.
func TestP10ARefusedAppendIsNoStep(t *testing.T) {
	b := opened(t, 100, 5, 100)
	b.insert(api.OK, 0, "hello")
	b.sync(api.OK)
	b.crash(api.OK, 1, 0, 0)
	for range 3 {
		b.refuse(api.OK, 0)
		b.delete(api.ErrNoSpace, 0, 1)
		b.reopen()
		b.insert(api.ErrNoSpace, 0, strings.Repeat("x", 74))
		b.reopen()
	}
	b.delete(api.OK, 0, 1)
	b.refuse(api.OK, 0)
	b.delete(api.ErrNoSpace, 0, 1) // though the machine is about to stop
	b.is("ello", 2)
	b.reopen()
	b.insert(api.ErrNoSpace, 0, strings.Repeat("x", 52))
	b.reopen()
	b.delete(api.ErrCrashed, 0, 1)
	b.open(api.OK)
	b.is("hello", 1)
}

// TestP10UntilThenNothingIsSeen: calls that do no step go on.
func TestP10UntilThenNothingIsSeen(t *testing.T) {
	b := closed(t, 8, 5, 1000)
	b.crash(api.OK, 0, 0, 0)
	b.open(api.OK)
	b.sync(api.OK)
	b.insert(api.ErrPos, 1, "a")
	b.insert(api.ErrText, 0, "")
	b.insert(api.ErrLong, 0, "123456789")
	b.delete(api.ErrPos, 0, 1)
	b.undo(api.ErrNothing)
	b.redo(api.ErrNothing)
	b.open(api.ErrOpen)
	b.load(api.ErrOpen, nil)
	b.read(0, 0)
	b.close(api.OK)
	b.close(api.ErrClosed)
	b.load(api.OK, filesOf(1, "hello", 10, record("I", 1, 0, 0, 5)))
	b.load(api.ErrArg, filesOf(1, ""))
	b.open(api.OK)
	b.is("hello", 1)
	b.close(api.OK)
	b.load(api.OK, filesOf(1, "hello", 2, "K", 3, "x"))
	b.open(api.ErrSpoilt)
	b.load(api.OK, filesOf(1, "hello", 10, record("I", 1, 0, 0, 5)))
	b.open(api.OK)
	b.undo(api.ErrCrashed)
	b.has(1, "hello", 10, record("I", 1, 0, 0, 5))
}

func TestP10AnotherCrashTakesItsPlace(t *testing.T) {
	for _, c := range [][2]int{{0, 2}, {3, 2}, {2, 2}, {math.MaxInt, 2}, {1, 0}, {0, 0}, {0, 5}, {5, 1}} {
		b := opened(t, 1000, 5, 10000)
		b.insert(api.OK, 0, "0123456789")
		b.crash(api.OK, c[0], 7, 8)
		b.crash(api.OK, c[1], 3, 4)
		for range c[1] {
			b.delete(api.OK, 0, 1)
		}
		b.delete(api.ErrCrashed, 0, 1)
		b.has(1, "012", 10, record("I", 1, 0, 0, 10)[:4])
		b.open(api.OK)
		for range 4 { // so of the first one nothing is left
			b.insert(api.OK, 0, "a")
		}
	}
	b := opened(t, 1000, 5, 10000)
	b.insert(api.OK, 0, "0123456789")
	b.crash(api.OK, 1, 0, 0)
	b.delete(api.OK, 0, 1)
	b.crash(api.OK, 1, 0, 0) // counts from here on
	b.delete(api.OK, 0, 1)
	b.delete(api.ErrCrashed, 0, 1)
}

// TestP10WhileClosed: it can be asked then, and lasts over Close, Open and Load.
func TestP10WhileClosed(t *testing.T) {
	b := closed(t, 100, 5, 1000)
	b.crash(api.OK, 5, 0, 0)
	b.open(api.OK)
	b.insert(api.OK, 0, "hello") // two of them
	b.reopen()
	b.delete(api.OK, 0, 1)
	b.close(api.OK)
	b.load(api.OK, filesOf(1, "abc", 4, "x", 10, record("I", 1, 0, 0, 3)))
	b.open(api.OK) // with a file to remove
	b.delete(api.OK, 0, 1)
	b.undo(api.ErrCrashed)
	b.has(1, "abc", 10, record("I", 1, 0, 0, 3))
	b.crash(api.OK, 0, 0, 0)
	b.open(api.OK)
	b.undo(api.ErrCrashed)
	b.has(1, "abc", 10, record("I", 1, 0, 0, 3))
}

// TestP10ACrashThatHasComeIsOver: all goes on behind it.
func TestP10ACrashThatHasComeIsOver(t *testing.T) {
	b := opened(t, 1000, 5, 10000)
	b.crash(api.OK, 0, 0, 0)
	b.insert(api.ErrCrashed, 0, "hello")
	b.open(api.OK)
	for range 50 {
		b.insert(api.OK, 0, "hello")
		b.sync(api.OK)
	}
	b.reopen()
	b.is(strings.Repeat("hello", 50), 50)
}

// TestP10ARefusalOutlivesACrash, and a crash a refusal; but not being read-only.
func TestP10ARefusalOutlivesACrash(t *testing.T) {
	b := opened(t, 100, 5, 1000)
	b.insert(api.OK, 0, "hello")
	b.sync(api.OK)
	b.refuse(api.OK, 2)
	b.crash(api.OK, 0, 0, 0)
	b.sync(api.ErrCrashed)
	b.open(api.OK)
	b.delete(api.OK, 0, 1)
	b.delete(api.OK, 0, 1)
	b.crash(api.OK, 0, 0, 0)
	b.delete(api.ErrNoSpace, 0, 1)
	b.close(api.OK)
	b.load(api.OK, append(b.store.Image(), api.File{Number: 11, Bytes: "x"}))
	b.open(api.ErrCrashed)
	b.open(api.OK)
	b.sync(api.OK)
	b.undoes("ello", "hello", "")
}

// TestP10ManySteps: far behind, the machine stops just there.
func TestP10ManySteps(t *testing.T) {
	for _, after := range []int{100, 255, 256, 257, 1000} {
		t.Run(fmt.Sprint(after), func(t *testing.T) {
			b := opened(t, 100, 1, 100000)
			b.insert(api.OK, 0, "hello")
			b.sync(api.OK)
			b.crash(api.OK, after, 0, 0)
			for i := range after {
				if i%2 == 0 {
					b.undo(api.OK)
				} else {
					b.redo(api.OK)
				}
			}
			b.sync(api.ErrCrashed)
			b.open(api.OK)
			b.is("hello", 1)
		})
	}
}
