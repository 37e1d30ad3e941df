package quill_test

import (
	"math/rand"
	"strings"
	"testing"

	"quill/api"
)

// changesOf makes the changes of written, up to that number and from behind
// another one; none of them is flushed by it.
func (b *both) changesOf(from, to int) {
	b.t.Helper()
	all := []func(){
		func() { b.insert(api.OK, 0, "hello") }, func() { b.insert(api.OK, 5, " you") }, func() { b.delete(api.OK, 0, 1) },
		func() { b.undo(api.OK) }, func() { b.undo(api.OK) }, func() { b.redo(api.OK) },
		func() { b.insert(api.OK, 3, "XY") }, func() { b.delete(api.OK, 1, 3) },
	}
	for _, change := range all[from:to] {
		change()
	}
}

// TestP12BehindACrash: a record that is not whole, or whose bytes of file 1 are
// lost, is cut off with all behind it, and file 1 too.
func TestP12BehindACrash(t *testing.T) {
	buffer, journal, _ := written()
	for one := range len(buffer) + 2 {
		for rest := range len(journal) + 2 {
			b := opened(t, 100, 10, 1000)
			b.changesOf(0, 8)
			b.crash(api.OK, 0, one, rest)
			b.sync(api.ErrCrashed)
			b.open(api.OK)
			done := 0
			for done < 8 && needs(done+1) <= one && 22*(done+1) <= rest {
				done++
			}
			b.stands(done)
		}
	}
}

// TestP12BehindASync: Done is at least what it was then, whatever is lost behind it.
func TestP12BehindASync(t *testing.T) {
	for synced := range 9 {
		for _, one := range []int{0, 1, 2, 4, many} {
			for _, rest := range []int{0, 21, 22, 43, 44, 65, many} {
				b := opened(t, 100, 10, 1000)
				b.changesOf(0, synced)
				b.sync(api.OK)
				b.changesOf(synced, 8)
				b.crash(api.OK, 0, one, rest)
				b.delete(api.ErrCrashed, 0, 1)
				b.open(api.OK)
				done := synced
				for done < 8 && needs(done+1) <= needs(synced)+one && 22*(done+1-synced) <= rest {
					done++
				}
				b.stands(done)
			}
		}
	}
}

// TestP12GoesOnBehindACrash: what is written then stands where the lost was.
func TestP12GoesOnBehindACrash(t *testing.T) {
	b := opened(t, 100, 10, 1000)
	b.changesOf(0, 2)
	b.sync(api.OK)
	b.insert(api.OK, 0, "lost")
	b.crash(api.OK, 0, 2, 22)
	b.undo(api.ErrCrashed)
	b.has(1, "hello youlo", 10, record("I", 1, 0, 0, 5)+record("I", 2, 5, 5, 4)+record("I", 3, 0, 9, 4))
	b.open(api.OK)
	b.stands(2)
	b.insert(api.OK, 0, "new ")
	b.has(1, "hello younew ", 10, record("I", 1, 0, 0, 5)+record("I", 2, 5, 5, 4)+record("I", 3, 0, 9, 4))
	b.reopen()
	b.is("new hello you", 3)
	b.undoes("hello you", "hello", "")
}

// TestP13WhatCanBeDoneAgainOutlivesACrash, as what can be undone does.
func TestP13WhatCanBeDoneAgainOutlivesACrash(t *testing.T) {
	b := opened(t, 100, 10, 1000)
	b.changesOf(0, 5)
	b.sync(api.OK)
	b.changesOf(5, 8)
	b.crash(api.OK, 0, 0, 0)
	b.undo(api.ErrCrashed)
	b.open(api.OK)
	b.stands(5)
	b.redoes("hello you", "ello you")
	b.undoes("hello you", "hello", "")
}

// all is the text of an open store, and those that Undo and Redo would bring
// one after the other: a store beside it is asked, with the same files.
func (b *both) all() string {
	b.t.Helper()
	told := []string{b.model.string()}
	for _, letter := range []string{"undo", "redo"} {
		s := newStore(b.t, b.model.most, b.model.depth, api.MaxRoom)
		wants(b.t, "Load", s.Load(b.store.Image()), api.OK)
		wants(b.t, "Open", s.Open(), api.OK)
		call := s.Undo
		if letter == "redo" {
			call = s.Redo
		}
		for call() == api.OK {
			n, _ := s.Length()
			text, _ := s.Read(0, n)
			told = append(told, letter+" "+text)
		}
	}
	return strings.Join(told, "\n")
}

// past is a store with all that it was at each number of changes.
type past struct {
	*both
	were []string
	safe int // Done may not be less
}

// mayFail has something go wrong soon, now and then.
func (p *past) mayFail(r *rand.Rand) {
	if r.Intn(5) == 0 {
		p.crash(api.OK, r.Intn(6), r.Intn(9), []int{0, 21, 22, 23, r.Intn(100)}[r.Intn(5)])
	}
	if r.Intn(12) == 0 {
		p.refuse(api.OK, r.Intn(6))
	}
}

// someCall makes a call that writes, and answers what it answered.
func (p *past) someCall(r *rand.Rand) api.Errno {
	pos := r.Intn(sizeOf(p.model.text) + 1)
	var want, got api.Errno
	switch r.Intn(8) {
	case 0:
		want, got = p.model.sync(), p.store.Sync()
		if got == api.OK {
			p.safe = len(p.were) - 1
		}
	case 1, 2:
		want, got = p.model.change("U", 0, 0, ""), p.store.Undo()
	case 3:
		want, got = p.model.change("R", 0, 0, ""), p.store.Redo()
	case 4:
		n := 1 + r.Intn(4)
		want, got = p.model.change("D", pos, n, ""), p.store.Delete(pos, n)
	default:
		text := "abcdef"[r.Intn(6):]
		want, got = p.model.change("I", pos, len(text), text), p.store.Insert(pos, text)
	}
	p.agree("a call", want, got)
	p.same()
	return got
}

// comesBack opens the store again, as often as it takes, and tells how often
// the machine stopped in that.
func (p *past) comesBack(r *rand.Rand) int {
	p.t.Helper()
	for stops := 0; ; stops++ {
		p.mayFail(r)
		want, got := p.model.openUp(), p.store.Open()
		p.agree("Open", want, got)
		p.same()
		if got == api.OK {
			return stops
		}
		wants(p.t, "Open", got, api.ErrCrashed)
	}
}

// holds looks that all is what it was at this Done.
func (p *past) holds() {
	p.t.Helper()
	done, _ := p.store.Done()
	if done < p.safe || done >= len(p.were) {
		p.t.Fatalf("Done = %d, want at least %d and at most %d", done, p.safe, len(p.were)-1)
	}
	if got := p.all(); got != p.were[done] {
		p.t.Fatalf("at Done %d all is\n%s\nit was\n%s", done, got, p.were[done])
	}
}

// TestP13ManyCrashes: whatever goes wrong, the store opens again with a text
// that was there, none older than the last Sync.
func TestP13ManyCrashes(t *testing.T) {
	r := rand.New(rand.NewSource(10))
	crashes, refusals, inOpen := 0, 0, 0
	for range 200 {
		p := &past{both: opened(t, 60, 1+r.Intn(5), 2000)}
		p.were = []string{p.all()}
		for range 40 {
			p.mayFail(r)
			stops := 0
			switch p.someCall(r) {
			case api.OK:
				if p.model.done == len(p.were) {
					p.were = append(p.were, p.all())
				}
			case api.ErrNoSpace:
				refusals++
				p.holds()
				p.close(api.OK)
				stops = p.comesBack(r)
				inOpen += stops
			case api.ErrCrashed:
				crashes++
				stops = 1 + p.comesBack(r)
				inOpen += stops - 1
			}
			if stops == 0 && p.model.done != len(p.were)-1 {
				t.Fatalf("Done = %d without a crash, want %d", p.model.done, len(p.were)-1)
			}
			p.holds()
			if stops > 0 {
				p.were, p.safe = p.were[:p.model.done+1], p.model.done
			}
		}
	}
	if crashes < 300 || refusals < 100 || inOpen < 50 {
		t.Errorf("%d crashes, %d refusals and %d crashes in Open: the test is too weak", crashes, refusals, inOpen)
	}
}
