package quill_test

import (
	"slices"
	"strings"
	"testing"

	"quill/api"
)

// unsaved is an open store with a checkpoint, and with changes behind it: of
// file 1 and of the journal the first half is flushed. The text is "hello you";
// "hello" and "" can be undone, "ello you" can be done again.
func unsaved(t *testing.T, room int) *both {
	t.Helper()
	b := opened(t, 1000, 10, room)
	b.insert(api.OK, 0, "hello")
	b.checkpoint(api.OK)
	b.insert(api.OK, 5, " y")
	b.sync(api.OK)
	b.insert(api.OK, 7, "ou")
	b.delete(api.OK, 0, 1)
	b.undo(api.OK)
	b.has(unsavedFiles()...)
	return b
}

// oldSaved is the checkpoint that an unsaved store has, nextSaved the one that
// it would write, unsavedJournal its journal.
func oldSaved() string {
	return saved{1, 1, 5, of(0, 5), []edit{{0, nil, of(0, 5)}}, nil}.bytes()
}

func nextSaved() string {
	return saved{
		2, 5, 9, of(0, 1, 1, 4, 5, 2, 7, 2),
		[]edit{{7, nil, of(7, 2)}, {5, nil, of(5, 2)}, {0, nil, of(0, 5)}}, []edit{{0, of(0, 1), nil}},
	}.bytes()
}

func unsavedJournal() string {
	return record("I", 2, 5, 5, 2) + record("I", 3, 7, 7, 2) + record("D", 4, 0, 1, 0) + record("U", 5, 0, 0, 0)
}

func unsavedFiles() []any {
	return []any{1, "hello you", 2, oldSaved(), 11, unsavedJournal()}
}

// unsavedRoom is how much room the files of an unsaved store take.
func unsavedRoom() int { return len("hello you") + len(oldSaved()) + len(unsavedJournal()) }

// goesOn looks that nothing is lost of an unsaved store, whose epoch is still
// the same, and that it can be saved now.
func (b *both) goesOn() {
	b.t.Helper()
	b.is("hello you", 5)
	b.redoes("ello you")
	b.undoes("hello you", "hello y", "hello", "")
	b.redoes("hello", "hello y", "hello you", "ello you")
	b.undo(api.OK)
	journal := b.model.files[11]
	if len(journal) != 22*(4+1+4+4+1) {
		b.t.Fatalf("the journal has %d bytes: not all changes went to it", len(journal))
	}
	b.checkpoint(api.OK)
	numbers := []int{}
	for _, f := range b.store.Image() {
		numbers = append(numbers, f.Number)
	}
	if file := b.store.Image()[1].Bytes; !slices.Equal(numbers, []int{1, 2}) || file[:5] != "K"+u32(2) {
		b.t.Fatalf("behind the Checkpoint there are files %v, and the epoch is %q", numbers, file[1:5])
	}
}

// TestP9ACheckpointIsRefused, because it was asked for: the epoch and all files
// are what they were, and the store is read-only.
func TestP9ACheckpointIsRefused(t *testing.T) {
	b := unsaved(t, 10000)
	b.refuse(api.OK, 0)
	b.checkpoint(api.ErrNoSpace)
	b.has(unsavedFiles()...)
	b.refused("hello you", 5)
	b.has(unsavedFiles()...)
	b.goesOn()
}

// TestP9ACheckpointWantsRoom: the old checkpoint and the journal still take
// theirs while the new one is written; one byte too few is too few.
func TestP9ACheckpointWantsRoom(t *testing.T) {
	for _, less := range []int{1, 2, 50, len(nextSaved())} {
		b := unsaved(t, unsavedRoom()+len(nextSaved())-less)
		b.checkpoint(api.ErrNoSpace)
		b.has(unsavedFiles()...)
		b.refused("hello you", 5)
		b.has(unsavedFiles()...)
		b.checkpoint(api.ErrNoSpace)
		b.has(unsavedFiles()...)
	}
	b := unsaved(t, unsavedRoom()+len(nextSaved()))
	b.checkpoint(api.OK)
	b.has(1, "hello you", 2, nextSaved())
}

// TestP9ACheckpointLeavesRoom: that of the old one, and of the journal.
func TestP9ACheckpointLeavesRoom(t *testing.T) {
	room := unsavedRoom() + len(nextSaved())
	b := unsaved(t, room)
	b.checkpoint(api.OK)
	left := room - len("hello you") - len(nextSaved())
	text := strings.Repeat("x", left-22-22)
	b.insert(api.OK, 0, text)
	b.undo(api.OK)
	b.has(1, "hello you"+text, 2, nextSaved(), 12, record("I", 6, 0, 9, len(text))+record("U", 7, 0, 0, 0))
	b.redo(api.ErrNoSpace)
}

// TestP9TheLeastRoom: for a checkpoint of nothing it is 29 bytes, and twice as
// many for another one.
func TestP9TheLeastRoom(t *testing.T) {
	for room := range 80 {
		b := opened(t, 100, 10, room)
		switch {
		case room < 29:
			b.checkpoint(api.ErrNoSpace)
			b.has()
		case room < 58:
			b.checkpoint(api.OK)
			b.checkpoint(api.ErrNoSpace)
			b.has(2, saved{epoch: 1}.bytes())
		default:
			b.checkpoint(api.OK)
			b.checkpoint(api.OK)
			b.checkpoint(api.OK)
			b.has(2, saved{epoch: 3}.bytes())
			continue
		}
		b.refused("", 0)
		b.is("", 0)
	}
}

// TestP9ARefusedCheckpointHasFlushedTheBuffer, and the journal not.
func TestP9ARefusedCheckpointHasFlushedTheBuffer(t *testing.T) {
	for _, room := range []int{10000, unsavedRoom() + len(nextSaved()) - 1} {
		b := unsaved(t, room)
		b.refuse(api.OK, 0)
		b.checkpoint(api.ErrNoSpace)
		b.reopen()
		b.crash(api.OK, 0, 0, 0)
		b.delete(api.ErrCrashed, 0, 1)
		b.has(1, "hello you", 2, oldSaved(), 11, unsavedJournal()[:22])
		b.open(api.OK)
		b.is("hello y", 2)
		b.has(1, "hello y", 2, oldSaved(), 11, unsavedJournal()[:22])
	}
}

// TestP9ARefusedFirstCheckpoint: there is none ahead of it.
func TestP9ARefusedFirstCheckpoint(t *testing.T) {
	for _, room := range []int{10000, 27 + 29 + 8 + 20 - 1} {
		b := opened(t, 100, 10, room)
		b.insert(api.OK, 0, "hello")
		if room == 10000 {
			b.refuse(api.OK, 0)
		}
		b.checkpoint(api.ErrNoSpace)
		b.has(1, "hello", 10, record("I", 1, 0, 0, 5))
		b.refused("hello", 1)
		b.undoes("")
		b.has(1, "hello", 10, record("I", 1, 0, 0, 5)+record("U", 2, 0, 0, 0))
	}
	b := opened(t, 100, 10, 10000)
	b.refuse(api.OK, 0)
	b.checkpoint(api.ErrNoSpace)
	b.has()
	b.refused("", 0)
	b.checkpoint(api.OK)
	b.has(2, saved{epoch: 1}.bytes())
}

// TestP9ACheckpointIsOneAppend: it counts as one, and its other steps don't.
func TestP9ACheckpointIsOneAppend(t *testing.T) {
	for after := range 5 {
		b := unsaved(t, 10000)
		b.refuse(api.OK, after)
		for range after {
			b.checkpoint(api.OK)
		}
		b.checkpoint(api.ErrNoSpace)
		b.reopen()
		for range 3 { // the refusal is over
			b.checkpoint(api.OK)
		}
		b.is("hello you", 5)
	}
	b := unsaved(t, 10000)
	b.refuse(api.OK, 4)
	b.insert(api.OK, 0, "ab")
	b.checkpoint(api.OK)
	b.delete(api.OK, 0, 1)
	b.delete(api.ErrNoSpace, 0, 1)
	b.refused("bhello you", 7)
}

// TestP9ACheckpointWithoutRoomIsNotCounted, but where it is the next one it was
// the refusal.
func TestP9ACheckpointWithoutRoomIsNotCounted(t *testing.T) {
	room := unsavedRoom() + 22
	for after := range 2 {
		b := unsaved(t, room)
		b.refuse(api.OK, after)
		for range 3 {
			b.checkpoint(api.ErrNoSpace)
			b.reopen()
		}
		b.delete(api.OK, 0, 1)
		if after == 0 {
			continue
		}
		b.close(api.OK)
		b.load(api.OK, nil) // so there is room
		b.open(api.OK)
		b.insert(api.ErrNoSpace, 0, "a")
		b.has()
		b.reopen()
		b.insert(api.OK, 0, "a")
	}
}

// TestP9ACrashInACheckpointCounts, if it is ahead of its append.
func TestP9ACrashInACheckpointCounts(t *testing.T) {
	for after := range 5 {
		b := unsaved(t, 10000)
		b.refuse(api.OK, 1)
		b.crash(api.OK, after, many, many)
		b.checkpoint(api.ErrCrashed)
		b.open(api.OK)
		if after == 0 {
			b.delete(api.OK, 0, 1) // the machine stopped ahead of flushing file 1
		}
		b.delete(api.ErrNoSpace, 0, 1)
	}
}

// TestP9TheRefusalComesFirst where the machine is about to stop too: it is no
// step, so the crash is still to come.
func TestP9TheRefusalComesFirst(t *testing.T) {
	b := unsaved(t, 10000)
	b.refuse(api.OK, 0)
	b.crash(api.OK, 1, 0, 0)
	b.checkpoint(api.ErrNoSpace)
	b.refusedAheadOfACrash()
	b = unsaved(t, unsavedRoom()+len(nextSaved())-1)
	b.crash(api.OK, 1, 0, 0)
	b.checkpoint(api.ErrNoSpace)
	b.refusedAheadOfACrash()
	b = unsaved(t, unsavedRoom()+len(nextSaved())-1)
	b.refuse(api.OK, 0)
	b.crash(api.OK, 0, 0, 0)
	b.checkpoint(api.ErrCrashed) // ahead of flushing file 1
	b.open(api.OK)
	b.delete(api.ErrNoSpace, 0, 1)
}

func (b *both) refusedAheadOfACrash() {
	b.t.Helper()
	b.has(unsavedFiles()...)
	b.checkpoint(api.ErrReadOnly)
	b.reopen()
	b.is("hello you", 5)
	b.delete(api.ErrCrashed, 0, 1)
	b.has(1, "hello you", 2, oldSaved(), 11, unsavedJournal()[:22])
}
