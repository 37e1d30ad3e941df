package quill_test

import (
	"strings"
	"testing"

	"quill/api"
)

// changesOf makes the changes of written, up to that number and from behind
// another one; none of them is flushed by it.
func (b *both) changesOf(from, to int) {
	b.t.Helper()
	all := []func(){
		func() { b.insert(api.OK, 0, "hello") }, func() { b.insert(api.OK, 5, " you") }, func() { b.delete(api.OK, 0, 1) },
		func() { b.undo(api.OK) }, func() { b.undo(api.OK) }, func() { b.redo(api.OK) },
		func() { b.insert(api.OK, 3, "XY") }, func() { b.delete(api.OK, 1, 3) },
	}
	for _, change := range all[from:to] {
		change()
	}
}

// TestP12BehindACrash: a record that is not whole, or whose bytes of file 1 are
// lost, is cut off with all behind it, and file 1 too.
func TestP12BehindACrash(t *testing.T) {
	buffer, journal, _ := written()
	for one := range len(buffer) + 2 {
		for rest := range len(journal) + 2 {
			b := opened(t, 100, 10, 1000)
			b.changesOf(0, 8)
			b.crash(api.OK, 0, one, rest)
			b.sync(api.ErrCrashed)
			b.open(api.OK)
			done := 0
			for done < 8 && needs(done+1) <= one && 22*(done+1) <= rest {
				done++
			}
			b.stands(done)
		}
	}
}

// TestP12BehindASync: Done is at least what it was then, whatever is lost behind it.
func TestP12BehindASync(t *testing.T) {
	for synced := range 9 {
		for _, one := range []int{0, 1, 2, 4, many} {
			for _, rest := range []int{0, 21, 22, 43, 44, 65, many} {
				b := opened(t, 100, 10, 1000)
				b.changesOf(0, synced)
				b.sync(api.OK)
				b.changesOf(synced, 8)
				b.crash(api.OK, 0, one, rest)
				b.delete(api.ErrCrashed, 0, 1)
				b.open(api.OK)
				done := synced
				for done < 8 && needs(done+1) <= needs(synced)+one && 22*(done+1-synced) <= rest {
					done++
				}
				b.stands(done)
			}
		}
	}
}

// TestP12GoesOnBehindACrash: what is written then stands where the lost was.
func TestP12GoesOnBehindACrash(t *testing.T) {
	b := opened(t, 100, 10, 1000)
	b.changesOf(0, 2)
	b.sync(api.OK)
	b.insert(api.OK, 0, "lost")
	b.crash(api.OK, 0, 2, 22)
	b.undo(api.ErrCrashed)
	b.has(1, "hello youlo", 10, record("I", 1, 0, 0, 5)+record("I", 2, 5, 5, 4)+record("I", 3, 0, 9, 4))
	b.open(api.OK)
	b.stands(2)
	b.insert(api.OK, 0, "new ")
	b.has(1, "hello younew ", 10, record("I", 1, 0, 0, 5)+record("I", 2, 5, 5, 4)+record("I", 3, 0, 9, 4))
	b.reopen()
	b.is("new hello you", 3)
	b.undoes("hello you", "hello", "")
}

// TestP13WhatCanBeDoneAgainOutlivesACrash, as what can be undone does.
func TestP13WhatCanBeDoneAgainOutlivesACrash(t *testing.T) {
	b := opened(t, 100, 10, 1000)
	b.changesOf(0, 5)
	b.sync(api.OK)
	b.changesOf(5, 8)
	b.crash(api.OK, 0, 0, 0)
	b.undo(api.ErrCrashed)
	b.open(api.OK)
	b.stands(5)
	b.redoes("hello you", "ello you")
	b.undoes("hello you", "hello", "")
}

// all is the text of an open store, and those that Undo and Redo would bring
// one after the other: a store beside it is asked, with the same files.
func (b *both) all() string {
	b.t.Helper()
	told := []string{b.model.string()}
	for _, letter := range []string{"undo", "redo"} {
		s := newStore(b.t, b.model.most, b.model.depth, api.MaxRoom)
		wants(b.t, "Load", s.Load(b.store.Image()), api.OK)
		wants(b.t, "Open", s.Open(), api.OK)
		call := s.Undo
		if letter == "redo" {
			call = s.Redo
		}
		for call() == api.OK {
			n, _ := s.Length()
			text, _ := s.Read(0, n)
			told = append(told, letter+" "+text)
		}
	}
	return strings.Join(told, "\n")
}
