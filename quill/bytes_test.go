package quill_test

import (
	"strings"
	"testing"

	"quill/api"
)

// TestP7TheFirstRecord is example 4 of the document.
func TestP7TheFirstRecord(t *testing.T) {
	b := opened(t, 100, 10, 10000)
	b.insert(api.OK, 0, "hello")
	want := "\x4a\x49\x00\x00\x00\x01\x00\x00\x00\x00\x00\x00\x00\x00\x00\x00\x00\x05"
	got := b.store.Image()[1].Bytes
	if len(got) != 22 || got[:18] != want {
		t.Fatalf("the record is %q, want %q and its crc", got, want)
	}
	b.has(1, "hello", 10, sealed(want))
}

// TestP7TheCheckSum has the crc written out, worked out by nothing of this project.
func TestP7TheCheckSum(t *testing.T) {
	b := opened(t, 100, 10, 10000)
	b.insert(api.OK, 0, "hello")
	if got := b.store.Image()[1].Bytes[18:]; got != "\x5e\x1f\xb6\x81" {
		t.Errorf("the crc is %q", got)
	}
}

// TestP7EachKind looks at the files behind each kind of change.
func TestP7EachKind(t *testing.T) {
	b := opened(t, 5000, 10, 10000)
	b.has()
	b.insert(api.OK, 0, "hello")
	journal := record("I", 1, 0, 0, 5)
	b.has(1, "hello", 10, journal)
	b.insert(api.OK, 2, "XYZ")
	journal += record("I", 2, 2, 5, 3)
	b.has(1, "helloXYZ", 10, journal)
	b.delete(api.OK, 1, 4)
	journal += record("D", 3, 1, 4, 0)
	b.has(1, "helloXYZ", 10, journal)
	b.undo(api.OK)
	journal += record("U", 4, 0, 0, 0)
	b.has(1, "helloXYZ", 10, journal)
	b.redo(api.OK)
	journal += record("R", 5, 0, 0, 0)
	b.has(1, "helloXYZ", 10, journal)
	b.undo(api.OK)
	b.undo(api.OK)
	b.undo(api.OK)
	journal += record("U", 6, 0, 0, 0) + record("U", 7, 0, 0, 0) + record("U", 8, 0, 0, 0)
	b.insert(api.OK, 0, "ab") // the text is empty, the buffer is not
	journal += record("I", 9, 0, 8, 2)
	b.has(1, "helloXYZab", 10, journal)
	b.is("ab", 9)
}

// TestP7NumbersOfMoreThanOneByte has positions, lengths and Done above 255.
func TestP7NumbersOfMoreThanOneByte(t *testing.T) {
	b := opened(t, 5000, 10, 100000)
	long := strings.Repeat("a", 200)
	journal := ""
	for i := range 20 {
		b.insert(api.OK, 200*i, long)
		journal += record("I", i+1, 200*i, 200*i, 200)
	}
	b.delete(api.OK, 300, 3000)
	journal += record("D", 21, 300, 3000, 0)
	for i := range 300 {
		if i%2 == 0 {
			b.undo(api.OK)
			journal += record("U", 22+i, 0, 0, 0)
		} else {
			b.redo(api.OK)
			journal += record("R", 22+i, 0, 0, 0)
		}
	}
	b.has(1, strings.Repeat(long, 20), 10, journal)
	b.is(strings.Repeat("a", 1000), 321)
}

// TestP7ErrorsWriteNothing: a change that may not be leaves the disk alone.
func TestP7ErrorsWriteNothing(t *testing.T) {
	b := opened(t, 10, 10, 1000)
	b.insert(api.OK, 0, "abc")
	b.insert(api.ErrPos, 4, "x")
	b.insert(api.ErrText, 0, "")
	b.insert(api.ErrLong, 0, "abcdefgh")
	b.delete(api.ErrPos, 0, 4)
	b.redo(api.ErrNothing)
	b.has(1, "abc", 10, record("I", 1, 0, 0, 3))
}

// TestP7TheJournalOfTheEpoch: behind a checkpoint the journal has another number.
func TestP7TheJournalOfTheEpoch(t *testing.T) {
	for _, epoch := range []int{1, 2, 999} {
		file := saved{epoch: epoch, done: 7, buffered: 4, text: of(1, 2)}.bytes()
		b := loaded(t, 100, 10, 1000, 1, "abcd", 2, file)
		b.open(api.OK)
		b.is("bc", 7)
		b.insert(api.OK, 1, "xyz")
		b.delete(api.OK, 0, 2)
		b.has(1, "abcdxyz", 2, file, 10+epoch, record("I", 8, 1, 4, 3)+record("D", 9, 0, 2, 0))
		b.reopen()
		b.is("yzc", 9)
	}
}

// refused looks at a store behind a step that was refused: the text and Done
// are what they were, and until Close nothing is written.
func (b *both) refused(text string, done int) {
	b.t.Helper()
	b.is(text, done)
	files := b.store.Image()
	b.insert(api.ErrReadOnly, 0, "a")
	b.insert(api.ErrReadOnly, -1, "")
	b.delete(api.ErrReadOnly, 0, 1)
	b.undo(api.ErrReadOnly)
	b.redo(api.ErrReadOnly)
	b.sync(api.ErrReadOnly)
	b.checkpoint(api.ErrReadOnly)
	b.open(api.ErrOpen)
	b.load(api.ErrOpen, nil)
	b.read(0, len(text))
	b.is(text, done)
	b.close(api.OK)
	for i, f := range b.store.Image() {
		if f != files[i] {
			b.t.Fatalf("Close changed file %d", f.Number)
		}
	}
	b.open(api.OK)
	b.sync(api.OK) // so it is read-only no more
	b.is(text, done)
}

// TestP7InsertIsRefused: at each room the steps are refused that don't fit.
func TestP7InsertIsRefused(t *testing.T) {
	first := record("I", 1, 0, 0, 5)
	for room := 27; room <= 27+3+22; room++ {
		b := opened(t, 100, 10, room)
		b.insert(api.OK, 0, "hello")
		if room == 27+3+22 {
			b.insert(api.OK, 5, "xyz")
			b.has(1, "helloxyz", 10, first+record("I", 2, 5, 5, 3))
			continue
		}
		b.insert(api.ErrNoSpace, 5, "xyz")
		if room < 27+3 {
			b.has(1, "hello", 10, first)
		} else {
			b.has(1, "helloxyz", 10, first)
		}
		b.refused("hello", 1)
		b.has(1, "hello", 10, first)
		b.undoesAsFarAs(room - 27)
	}
}

// undoesAsFarAs undoes if there is room for a record of it.
func (b *both) undoesAsFarAs(left int) {
	b.t.Helper()
	if left >= 22 {
		b.undo(api.OK)
		b.is("", b.model.done)
	} else {
		b.undo(api.ErrNoSpace)
	}
}

// TestP7RecordsAreRefused: of changes that write a record alone.
func TestP7RecordsAreRefused(t *testing.T) {
	for _, left := range []int{0, 1, 21} {
		room := 5 + 3*22 + left
		prepared := func() *both {
			b := opened(t, 100, 10, room)
			b.insert(api.OK, 0, "hello")
			b.delete(api.OK, 0, 1)
			b.undo(api.OK)
			return b
		}
		b := prepared()
		b.delete(api.ErrNoSpace, 1, 2)
		b.refused("hello", 3)
		b = prepared()
		b.undo(api.ErrNoSpace)
		b.refused("hello", 3)
		b = prepared()
		b.redo(api.ErrNoSpace)
		b.refused("hello", 3)
	}
}

// TestP7EditsOutliveARefusal: what could be undone and done again still can be.
func TestP7EditsOutliveARefusal(t *testing.T) {
	for _, call := range []string{"insert", "delete"} {
		b := opened(t, 100, 10, 7+22*4+21)
		b.insert(api.OK, 0, "hello")
		b.insert(api.OK, 5, "!?")
		b.delete(api.OK, 0, 1)
		b.undo(api.OK)
		if call == "insert" {
			b.insert(api.ErrNoSpace, 0, "x")
		} else {
			b.delete(api.ErrNoSpace, 0, 1)
		}
		b.close(api.OK)
		files := b.store.Image()
		for _, f := range files {
			if f.Number == 1 && call == "insert" && f.Bytes != "hello!?x" {
				t.Errorf("file 1 is %q", f.Bytes)
			}
		}
		other := closed(t, 100, 10, 1000)
		other.load(api.OK, files)
		other.open(api.OK)
		other.is("hello!?", 4)
		other.redoes("ello!?")
		other.undoes("hello!?", "hello", "")
	}
}
