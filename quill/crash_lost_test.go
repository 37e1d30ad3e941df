package quill_test

import (
	"math"
	"slices"
	"strings"
	"testing"

	"quill/api"
)

// TestP10WhatStays tells of each file how many bytes stay of what was not flushed.
func TestP10WhatStays(t *testing.T) {
	first, second := record("I", 1, 0, 0, 2), record("I", 2, 1, 2, 3)
	for _, c := range []struct{ one, rest, bytes, journal int }{
		{0, 0, 2, 22}, {1, 0, 3, 22}, {2, 0, 4, 22}, {3, 0, 5, 22}, {4, 0, 5, 22}, {many, 0, 5, 22}, {math.MaxInt, 0, 5, 22},
		{0, 1, 2, 23}, {0, 21, 2, 43}, {0, 22, 2, 44}, {0, 23, 2, 44}, {0, many, 2, 44}, {0, math.MaxInt, 2, 44},
		{1, 2, 3, 24}, {2, 1, 4, 23}, {math.MaxInt, math.MaxInt, 5, 44},
	} {
		b := opened(t, 100, 5, 1000)
		b.insert(api.OK, 0, "ab")
		b.sync(api.OK)
		b.insert(api.OK, 1, "cde")
		b.crash(api.OK, 0, c.one, c.rest)
		b.delete(api.ErrCrashed, 0, 1)
		b.has(1, "abcde"[:c.bytes], 10, (first + second)[:c.journal])
		b.open(api.OK)
		if c.bytes == 5 && c.journal == 44 {
			b.is("acdeb", 2)
		} else {
			b.is("ab", 1)
			b.has(1, "ab", 10, first)
		}
	}
}

// TestP10NothingStays: a file without bytes is not there.
func TestP10NothingStays(t *testing.T) {
	for _, c := range []struct {
		one, rest int
		files     []any
	}{
		{0, 0, nil}, {1, 0, []any{1, "a"}}, {0, 1, []any{10, "J"}}, {2, 2, []any{1, "ab", 10, "JI"}},
	} {
		b := opened(t, 100, 5, 1000)
		b.insert(api.OK, 0, "ab")
		b.crash(api.OK, 0, c.one, c.rest)
		b.undo(api.ErrCrashed)
		b.has(c.files...)
		b.open(api.OK)
		b.has()
		b.is("", 0)
	}
}

// TestP10TheJournalOfAnotherEpoch is one of the rest, and the checkpoint is flushed.
func TestP10TheJournalOfAnotherEpoch(t *testing.T) {
	checkpoint := saved{epoch: 7, done: 3, buffered: 2, text: of(0, 2)}.bytes()
	journal := record("I", 4, 0, 2, 3) + record("D", 5, 0, 1, 0)
	for _, c := range []struct{ one, rest, done int }{{0, 0, 3}, {3, 44, 5}, {3, 43, 4}, {2, 44, 3}, {0, many, 3}, {many, 21, 3}} {
		b := loaded(t, 100, 5, 1000, 1, "ab", 2, checkpoint)
		b.open(api.OK)
		b.insert(api.OK, 0, "cde")
		b.delete(api.OK, 0, 1)
		b.crash(api.OK, 0, c.one, c.rest)
		b.undo(api.ErrCrashed)
		files := []any{1, "abcde"[:2+min(c.one, 3)], 2, checkpoint}
		if c.rest > 0 {
			files = append(files, 17, journal[:min(c.rest, 44)])
		}
		b.has(files...)
		b.open(api.OK)
		b.is([]string{"ab", "cdeab", "deab"}[c.done-3], c.done)
	}
}

// TestP10SyncFlushesWhatIsThere, and nothing of what comes behind it.
func TestP10SyncFlushesWhatIsThere(t *testing.T) {
	b := opened(t, 100, 5, 1000)
	journal := ""
	for i, text := range []string{"ab", "cd", "ef"} {
		b.insert(api.OK, 0, text)
		b.sync(api.OK)
		journal += record("I", i+1, 0, 2*i, 2)
	}
	b.insert(api.OK, 0, "gh")
	b.delete(api.OK, 0, 1)
	b.crash(api.OK, 0, 0, 0)
	b.sync(api.ErrCrashed)
	b.has(1, "abcdef", 10, journal)
	b.open(api.OK)
	b.is("efcdab", 3)
	b.undoes("cdab", "ab", "")
}

// TestP10WhatStaysIsFlushed: another crash takes nothing more of it.
func TestP10WhatStaysIsFlushed(t *testing.T) {
	for _, stays := range []int{0, 1, 2, 21, 22, many} {
		b := opened(t, 100, 5, 1000)
		b.insert(api.OK, 0, "ab")
		b.delete(api.OK, 0, 1)
		b.crash(api.OK, 0, stays, stays)
		b.undo(api.ErrCrashed)
		files := b.store.Image()
		b.crash(api.OK, 0, 0, 0)
		if e := b.model.openUp(); e != b.store.Open() {
			t.Fatalf("Open with %d bytes that stay: not %d", stays, e)
		}
		if b.model.open { // it had no step to do
			b.insert(api.ErrCrashed, 0, "x")
		}
		if !slices.Equal(b.store.Image(), files) {
			t.Errorf("of %s another crash leaves %s", short(files), short(b.store.Image()))
		}
	}
}

// TestP10WhatIsCutIsFlushed with that, and what is appended then is not.
func TestP10WhatIsCutIsFlushed(t *testing.T) {
	b := opened(t, 100, 5, 1000)
	b.insert(api.OK, 0, "hello")
	b.refuse(api.OK, 1)
	b.insert(api.ErrNoSpace, 0, "xyz")
	b.reopen() // which cuts file 1, and leaves the journal as it is
	b.insert(api.OK, 0, "and")
	b.crash(api.OK, 0, 0, many)
	b.undo(api.ErrCrashed)
	b.has(1, "hello", 10, record("I", 1, 0, 0, 5)+record("I", 2, 0, 5, 3))
	b.open(api.OK)
	b.is("hello", 1)
	b.insert(api.OK, 0, "and")
	b.crash(api.OK, 0, many, 0)
	b.undo(api.ErrCrashed)
	b.has(1, "helloand", 10, record("I", 1, 0, 0, 5))
}

// TestP10WhatIsRemovedIsGone at once; and a file of that number that is made
// again begins without flushed bytes.
func TestP10WhatIsRemovedIsGone(t *testing.T) {
	b := loaded(t, 100, 5, 1000, 1, "some bytes", 3, "others", 10, strings.Repeat("J", 50))
	b.open(api.OK)
	b.has()
	b.insert(api.OK, 0, "hello")
	b.crash(api.OK, 0, 2, 5)
	b.undo(api.ErrCrashed)
	b.has(1, "he", 10, record("I", 1, 0, 0, 5)[:5])
	b.open(api.OK)
	b.insert(api.OK, 0, "hello")
	b.crash(api.OK, 0, 0, 0)
	b.undo(api.ErrCrashed)
	b.has()
}

// TestP10WhatIsLoadedIsFlushed, whatever was there ahead of it.
func TestP10WhatIsLoadedIsFlushed(t *testing.T) {
	b := opened(t, 100, 5, 1000)
	b.insert(api.OK, 0, "ab")
	b.close(api.OK)
	b.load(api.OK, filesOf(1, "hello", 10, record("I", 1, 0, 0, 5), 12, "x"))
	b.crash(api.OK, 0, 0, 0)
	b.open(api.ErrCrashed)
	b.has(1, "hello", 10, record("I", 1, 0, 0, 5), 12, "x")
	b.load(api.OK, b.store.Image()[:2])
	b.open(api.OK)
	b.insert(api.OK, 5, "!")
	b.crash(api.OK, 0, 0, 0)
	b.undo(api.ErrCrashed)
	b.has(1, "hello", 10, record("I", 1, 0, 0, 5))
}

// TestP10WhatIsLostLeavesRoom: the disk has room again for as much.
func TestP10WhatIsLostLeavesRoom(t *testing.T) {
	b := opened(t, 100, 5, 60)
	b.insert(api.OK, 0, strings.Repeat("x", 38))
	b.crash(api.OK, 0, 0, 0)
	b.sync(api.ErrCrashed)
	b.open(api.OK)
	b.insert(api.OK, 0, strings.Repeat("y", 38))
	b.is(strings.Repeat("y", 38), 1)
}
