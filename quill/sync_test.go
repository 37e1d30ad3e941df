package quill_test

import (
	"testing"

	"quill/api"
)

func TestP8SyncErrors(t *testing.T) {
	b := closed(t, 100, 5, 40)
	b.sync(api.ErrClosed)
	b.open(api.OK)
	b.sync(api.OK)
	b.has() // nothing is made by it
	b.insert(api.OK, 0, "hello")
	b.sync(api.OK)
	b.sync(api.OK)
	b.delete(api.ErrNoSpace, 0, 1)
	b.sync(api.ErrReadOnly)
	b.close(api.OK)
	b.sync(api.ErrClosed)
	b.open(api.OK)
	b.sync(api.OK)
}

// TestP8SyncChangesNoBytes: neither the files nor the text, nor what can be undone.
func TestP8SyncChangesNoBytes(t *testing.T) {
	b := opened(t, 100, 5, 1000)
	b.insert(api.OK, 0, "hello")
	b.delete(api.OK, 1, 2)
	b.undo(api.OK)
	files := []any{1, "hello", 10, record("I", 1, 0, 0, 5) + record("D", 2, 1, 2, 0) + record("U", 3, 0, 0, 0)}
	b.has(files...)
	b.sync(api.OK)
	b.has(files...)
	b.is("hello", 3)
	b.redoes("hlo")
	b.undoes("hello", "")
}

// TestP8SyncOfOneFileAlone: there may be a buffer without a journal, or neither.
func TestP8SyncOfOneFileAlone(t *testing.T) {
	file := saved{epoch: 3, done: 1, buffered: 3, text: of(0, 3)}.bytes()
	b := loaded(t, 100, 5, 1000, 1, "abc", 2, file)
	b.open(api.OK)
	b.sync(api.OK)
	b.has(1, "abc", 2, file)
	file = saved{epoch: 3, done: 1}.bytes()
	b = loaded(t, 100, 5, 1000, 2, file)
	b.open(api.OK)
	b.sync(api.OK)
	b.has(2, file)
}

// TestP8SyncOfAnotherEpoch flushes the journal of that one.
func TestP8SyncOfAnotherEpoch(t *testing.T) {
	file := saved{epoch: 7, done: 3, buffered: 2, text: of(0, 2)}.bytes()
	b := loaded(t, 100, 5, 1000, 1, "ab", 2, file)
	b.open(api.OK)
	b.insert(api.OK, 0, "cde")
	b.crash(api.OK, 2, 0, 0)
	b.sync(api.OK)
	b.undo(api.ErrCrashed)
	b.has(1, "abcde", 2, file, 17, record("I", 4, 0, 2, 3))
	b.open(api.OK)
	b.is("cdeab", 4)
}
