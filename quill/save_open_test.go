package quill_test

import (
	"slices"
	"testing"

	"quill/api"
)

// savedAt is an open store to which so many changes of written were made, with
// a Checkpoint behind the first of them.
func savedAt(t *testing.T, at, done int) *both {
	t.Helper()
	b := opened(t, 100, 10, 10000)
	b.changesOf(0, at)
	b.checkpoint(api.OK)
	b.changesOf(at, done)
	return b
}

// standsAs looks that a store stands as if there had never been a Checkpoint.
func (b *both) standsAs(done int) {
	b.t.Helper()
	_, _, texts := written()
	b.is(texts[done], done)
	beside := opened(b.t, 100, 10, 10000)
	beside.changesOf(0, done)
	b.goesAs(beside)
}

// TestP12OwnCheckpointsBehindClose: with no record in the journal, with some
// and with all.
func TestP12OwnCheckpointsBehindClose(t *testing.T) {
	for at := range 9 {
		for done := at; done <= 8; done++ {
			b := savedAt(t, at, done)
			files := b.store.Image()
			b.reopen()
			if !slices.Equal(b.store.Image(), files) {
				t.Fatalf("Open changed the files to %s", short(b.store.Image()))
			}
			b.standsAs(done)
		}
	}
}

// TestP12OwnCheckpointsBehindACrash: of the records behind the checkpoint those
// are done that are whole, and whose bytes are in file 1.
func TestP12OwnCheckpointsBehindACrash(t *testing.T) {
	buffer, journal, _ := written()
	for at := range 9 {
		for _, one := range []int{0, 1, 2, 4, 5, 9, many} {
			for _, rest := range []int{0, 21, 22, 43, 44, 65, 100, many} {
				b := savedAt(t, at, 8)
				file := b.model.files[2]
				b.crash(api.OK, 0, one, rest)
				b.delete(api.ErrCrashed, 0, 1)
				b.open(api.OK)
				done := at
				for done < 8 && needs(done+1) <= needs(at)+one && 22*(done+1-at) <= rest {
					done++
				}
				b.has(listed(1, buffer[:needs(done)], 2, file, 11, journal[22*at:22*done])...)
				b.standsAs(done)
			}
		}
	}
}

// TestP12OwnCheckpointsAgainAndAgain: one behind each change, and Open behind each.
func TestP12OwnCheckpointsAgainAndAgain(t *testing.T) {
	b := opened(t, 100, 10, 10000)
	for done := range 8 {
		b.changesOf(done, done+1)
		b.checkpoint(api.OK)
		b.reopen()
		b.crash(api.OK, 0, 0, 0)
		b.checkpoint(api.ErrCrashed)
		b.open(api.OK)
	}
	b.standsAs(8)
}

// TestP12OwnCheckpointOfALesserDepth: another store that loads it forgets the
// edits that are furthest off, and writes the others down then.
func TestP12OwnCheckpointOfALesserDepth(t *testing.T) {
	b := opened(t, 100, 10, 1000)
	for i := range 5 {
		b.insert(api.OK, i, "abcde"[i:i+1])
	}
	b.undo(api.OK)
	b.undo(api.OK)
	b.checkpoint(api.OK)
	back, again := []string{"ab", "a", ""}, []string{"abcd", "abcde"}
	for depth := range 5 {
		undo, redo := back[:min(depth, 3)], again[:min(depth, 2)]
		other := closed(t, 100, depth, 1000)
		load := func() {
			t.Helper()
			other.load(api.OK, b.store.Image())
			other.open(api.OK)
			other.is("abc", 7)
		}
		load()
		other.undoes(undo...)
		other.close(api.OK)
		load()
		other.redoes(redo...)
		other.close(api.OK)
		load()
		other.checkpoint(api.OK)
		files := other.store.Image()
		third := closed(t, 100, 10, 1000)
		third.load(api.OK, files)
		third.open(api.OK)
		third.undoes(undo...)
		third.close(api.OK)
		third.load(api.OK, files)
		third.open(api.OK)
		third.redoes(redo...)
	}
}

// TestP12RecordsBehindOwnCheckpointOfALesserDepth: what is forgotten can't be
// undone by them either.
func TestP12RecordsBehindOwnCheckpointOfALesserDepth(t *testing.T) {
	b := opened(t, 100, 10, 1000)
	for i := range 3 {
		b.insert(api.OK, i, "abc"[i:i+1])
	}
	b.checkpoint(api.OK)
	b.undo(api.OK)
	b.undo(api.OK)
	for depth, text := range []string{"abc", "ab", "a", "a"} {
		other := closed(t, 100, depth, 1000)
		other.load(api.OK, b.store.Image())
		other.open(api.OK)
		done := 3 + min(depth, 2)
		other.is(text, done)
		other.has(listed(1, "abc", 2, b.model.files[2], 11, b.model.files[11][:22*(done-3)])...)
	}
}

// TestP12WhatACheckpointLeft: the journal of the epoch ahead of it, and file 3,
// are removed by Open and not read.
func TestP12WhatACheckpointLeft(t *testing.T) {
	b := unsaved(t, 10000)
	b.crash(api.OK, 4, many, many)
	b.checkpoint(api.ErrCrashed)
	b.has(1, "hello you", 2, nextSaved(), 11, unsavedJournal())
	b.open(api.OK)
	b.has(1, "hello you", 2, nextSaved())
	b.is("hello you", 5)
	b = unsaved(t, 10000)
	b.crash(api.OK, 3, many, many)
	b.checkpoint(api.ErrCrashed)
	b.has(1, "hello you", 2, oldSaved(), 3, nextSaved(), 11, unsavedJournal())
	b.open(api.OK)
	b.has(unsavedFiles()...)
	b.goesOn()
	b = unsaved(t, 10000) // all that there may be, and both ahead and behind
	b.checkpoint(api.OK)
	b.close(api.OK)
	b.load(api.OK, filesOf(1, "hello you", 2, nextSaved(), 3, nextSaved(), 10, record("U", 6, 0, 0, 0), 11, record("U", 6, 0, 0, 0),
		12, record("R", 6, 0, 0, 0), 13, record("U", 7, 0, 0, 0)))
	b.open(api.OK)
	b.has(1, "hello you", 2, nextSaved(), 12, record("R", 6, 0, 0, 0))
	b.is("ello you", 6)
}

// TestP14NoJournalBehindACheckpoint that was OK: files 1 and 2 alone are there.
func TestP14NoJournalBehindACheckpoint(t *testing.T) {
	for done := range 9 {
		b := opened(t, 100, 10, 10000)
		b.changesOf(0, done)
		for range 3 {
			b.checkpoint(api.OK)
			for _, f := range b.store.Image() {
				if f.Number != 1 && f.Number != 2 || f.Number == 1 && done == 0 {
					t.Fatalf("behind %d changes and a Checkpoint there is a file %d", done, f.Number)
				}
			}
			if _, there := b.model.files[2]; !there {
				t.Fatal("there is no checkpoint")
			}
		}
	}
}

// TestP14AnOpenThatStops ahead of each of its steps, of disks as a Checkpoint
// leaves them that stopped ahead of each of its own: the next one finds the same.
func TestP14AnOpenThatStops(t *testing.T) {
	steps := 0
	for after := range 5 {
		for _, one := range []int{0, 1, many} {
			for _, rest := range []int{0, 21, 30, 50, many} {
				b := unsaved(t, 10000)
				b.crash(api.OK, after, one, rest)
				b.checkpoint(api.ErrCrashed)
				files := b.store.Image()
				steps += findsTheSame(t, files)
				more := append(filesOf(0, "x"), files...)
				more = append(more, filesOf(12, "y", 13, "z", 1<<40, "w")...)
				steps += findsTheSame(t, more)
			}
		}
	}
	if steps < 300 {
		t.Errorf("Open stopped %d times: the test is too weak", steps)
	}
}

// findsTheSame opens a disk with the machine stopping ahead of each step of
// Open, of the first one alone and of all. It tells how often it stopped.
func findsTheSame(t *testing.T, files []api.File) int {
	t.Helper()
	stops := 0
	beside := loadedWith(t, files)
	beside.open(api.OK)
	all, image := beside.all(), beside.store.Image()
	same := func(b *both) {
		t.Helper()
		if b.all() != all || b.model.done != beside.model.done || !slices.Equal(b.store.Image(), image) {
			t.Fatalf("of %s an Open behind others finds %s, want %s", short(files), b.all(), all)
		}
	}
	for after := 0; ; after++ {
		b := loadedWith(t, files)
		b.crash(api.OK, after, after%3, after%5)
		want, got := b.model.openUp(), b.store.Open()
		b.agree("Open", want, got)
		if got == api.OK {
			same(b)
			break
		}
		wants(t, "Open", got, api.ErrCrashed)
		stops++
		b.open(api.OK)
		same(b)
	}
	b := loadedWith(t, files)
	for range stops {
		b.crash(api.OK, 1, 0, 0)
		want, got := b.model.openUp(), b.store.Open()
		b.agree("Open", want, got)
		b.same()
	}
	if stops == 0 {
		b.open(api.OK)
	}
	same(b)
	return stops
}

// loadedWith is a store with these files, not open yet.
func loadedWith(t *testing.T, files []api.File) *both {
	t.Helper()
	b := closed(t, 1000, 10, 10000)
	b.load(api.OK, files)
	return b
}
