package quill_test

import (
	"math/rand"
	"testing"

	"quill/api"
)

// turn is a call that writes; flushes, if Done can't be less any more behind it.
type turn struct {
	name    string
	flushes bool
	make    func(b *both) (model, store api.Errno)
}

func insertTurn(pos int, text string) turn {
	return turn{"Insert", false, func(b *both) (api.Errno, api.Errno) {
		return b.model.change("I", pos, len(text), text), b.store.Insert(pos, text)
	}}
}

func deleteTurn(pos, n int) turn {
	return turn{"Delete", false, func(b *both) (api.Errno, api.Errno) {
		return b.model.change("D", pos, n, ""), b.store.Delete(pos, n)
	}}
}

func undoTurn() turn {
	return turn{"Undo", false, func(b *both) (api.Errno, api.Errno) { return b.model.change("U", 0, 0, ""), b.store.Undo() }}
}

func redoTurn() turn {
	return turn{"Redo", false, func(b *both) (api.Errno, api.Errno) { return b.model.change("R", 0, 0, ""), b.store.Redo() }}
}

func syncTurn() turn {
	return turn{"Sync", true, func(b *both) (api.Errno, api.Errno) { return b.model.sync(), b.store.Sync() }}
}

func checkpointTurn() turn {
	return turn{"Checkpoint", true, func(b *both) (api.Errno, api.Errno) { return b.model.checkpoint(), b.store.Checkpoint() }}
}

// past is a store with all that it was at each number of changes, and how often
// something went wrong with it.
type past struct {
	*both
	were    []string
	safe    int // Done may not be less
	crashed map[string]int
	refused map[string]int
}

// newPast is an open store with nothing in it.
func newPast(t *testing.T, depth, room int) *past {
	t.Helper()
	p := &past{both: opened(t, 60, depth, room), crashed: map[string]int{}, refused: map[string]int{}}
	p.were = []string{p.all()}
	return p
}

// takes makes a call and, where the machine stopped in it or the disk refused,
// opens the store again; ahead of each Open more may be asked to go wrong.
// Behind that all is what it was at some Done that may be.
func (p *past) takes(c turn, more func()) {
	p.t.Helper()
	want, got := c.make(p.both)
	p.agree(c.name, want, got)
	p.same()
	stops := 0
	switch got {
	case api.OK:
		p.accepted(c)
	case api.ErrNoSpace:
		p.refused[c.name]++
		p.holds()
		p.close(api.OK)
		stops = p.comesBack(more)
	case api.ErrCrashed:
		p.crashed[c.name]++
		stops = 1 + p.comesBack(more)
	}
	if stops == 0 && p.model.done != len(p.were)-1 {
		p.t.Fatalf("Done = %d without a crash, want %d", p.model.done, len(p.were)-1)
	}
	p.holds()
	if stops > 0 {
		p.were, p.safe = p.were[:p.model.done+1], p.model.done
	}
}

// accepted writes down what the store is behind a call that was OK.
func (p *past) accepted(c turn) {
	p.t.Helper()
	if p.model.done == len(p.were) {
		p.were = append(p.were, p.all())
	}
	if c.flushes {
		p.safe = p.model.done
	}
}

// comesBack opens the store again, as often as it takes, and tells how often
// the machine stopped in that.
func (p *past) comesBack(more func()) int {
	p.t.Helper()
	for stops := 0; ; stops++ {
		more()
		want, got := p.model.openUp(), p.store.Open()
		p.agree("Open", want, got)
		p.same()
		if got == api.OK {
			p.open(api.ErrOpen)
			return stops
		}
		wants(p.t, "Open", got, api.ErrCrashed)
		p.crashed["Open"]++
	}
}

// holds looks that all is what it was at this Done.
func (p *past) holds() {
	p.t.Helper()
	done, _ := p.store.Done()
	if done < p.safe || done >= len(p.were) {
		p.t.Fatalf("Done = %d, want at least %d and at most %d", done, p.safe, len(p.were)-1)
	}
	if got := p.all(); got != p.were[done] {
		p.t.Fatalf("at Done %d all is\n%s\nit was\n%s", done, got, p.were[done])
	}
}

// mayFail has something go wrong soon, now and then.
func (p *past) mayFail(r *rand.Rand) {
	if r.Intn(5) == 0 {
		p.crash(api.OK, r.Intn(8), r.Intn(9), []int{0, 21, 22, 23, r.Intn(100), r.Intn(300)}[r.Intn(6)])
	}
	if r.Intn(12) == 0 {
		p.refuse(api.OK, r.Intn(6))
	}
}

// someTurn is some call that writes.
func (p *past) someTurn(r *rand.Rand) turn {
	pos := r.Intn(sizeOf(p.model.text) + 1)
	switch r.Intn(9) {
	case 0:
		return syncTurn()
	case 1, 2:
		return undoTurn()
	case 3:
		return redoTurn()
	case 4:
		return deleteTurn(pos, 1+r.Intn(4))
	case 5:
		return checkpointTurn()
	}
	return insertTurn(pos, "abcdef"[r.Intn(6):])
}

// tally counts what went wrong with several stores, by the names of the calls.
type tally struct{ crashed, refused map[string]int }

func newTally() tally { return tally{map[string]int{}, map[string]int{}} }

func (a tally) add(p *past) {
	for name, n := range p.crashed {
		a.crashed[name] += n
	}
	for name, n := range p.refused {
		a.refused[name] += n
	}
}

// enough looks that each call stopped and was refused at least so often.
func (a tally) enough(t *testing.T, crashes, refusals int) {
	t.Helper()
	for _, name := range []string{"Insert", "Delete", "Undo", "Redo", "Sync", "Checkpoint", "Open"} {
		if a.crashed[name] < crashes {
			t.Errorf("%s stopped %d times, want %d: the test is too weak", name, a.crashed[name], crashes)
		}
		if name != "Sync" && name != "Open" && a.refused[name] < refusals {
			t.Errorf("%s was refused %d times, want %d: the test is too weak", name, a.refused[name], refusals)
		}
	}
}

// TestP13ManyCrashes: whatever goes wrong, the store opens again with a text
// that was there, none older than the last Sync or Checkpoint.
func TestP13ManyCrashes(t *testing.T) {
	r := rand.New(rand.NewSource(10))
	all := newTally()
	for range 250 {
		p := newPast(t, 1+r.Intn(5), 300+r.Intn(1500))
		for range 40 {
			p.mayFail(r)
			p.takes(p.someTurn(r), func() { p.mayFail(r) })
		}
		all.add(p)
	}
	all.enough(t, 20, 10)
}

// turns is calls with Sync and Checkpoint among them: 39 steps together, 20 of
// them appends.
func turns() []turn {
	return []turn{
		insertTurn(0, "hello"), insertTurn(2, "XY"), checkpointTurn(), deleteTurn(1, 3), undoTurn(), syncTurn(),
		insertTurn(0, "a"), undoTurn(), checkpointTurn(), redoTurn(), deleteTurn(0, 2), syncTurn(), undoTurn(),
		insertTurn(3, "end"), checkpointTurn(), checkpointTurn(), undoTurn(), undoTurn(),
	}
}

// runs makes all turns; the first thing goes wrong in them, and each other one
// is asked for ahead of the Open behind the one ahead of it.
func (p *past) runs(wrong ...func(p *past)) {
	p.t.Helper()
	next := func() {
		if len(wrong) > 0 {
			wrong[0](p)
			wrong = wrong[1:]
		}
	}
	next()
	for _, c := range turns() {
		p.takes(c, next)
	}
}

// lost is how much stays in a crash, of file 1 and of the others.
func lost() [][2]int {
	return [][2]int{{0, 0}, {2, 22}, {0, many}, {many, 0}, {many, 30}, {many, many}}
}

func crashAt(after int, stays [2]int) func(p *past) {
	return func(p *past) { p.crash(api.OK, after, stays[0], stays[1]) }
}

func refuseAt(after int) func(p *past) {
	return func(p *past) { p.refuse(api.OK, after) }
}

// TestP13EachStepOfTheTurns has the machine stop ahead of each of them, and
// then ahead of each step of what comes behind that, the Open first.
func TestP13EachStepOfTheTurns(t *testing.T) {
	all := newTally()
	for first := range 39 {
		for i, stays := range lost() {
			for second := range 12 {
				p := newPast(t, 4, 10000)
				p.runs(crashAt(first, stays), crashAt(second, lost()[(i+second)%6]))
				if len(p.crashed) == 0 {
					t.Fatalf("the machine did not stop ahead of step %d", first)
				}
				all.add(p)
			}
		}
	}
	all.enough(t, 100, 0)
}

// TestP13EachAppendOfTheTurns has each be refused, then the machine stop ahead
// of each step of what comes behind that, and the other way round.
func TestP13EachAppendOfTheTurns(t *testing.T) {
	all := newTally()
	for first := range 20 {
		for second := range 20 {
			stays := lost()[(first+second)%6]
			p := newPast(t, 4, 10000)
			p.runs(refuseAt(first), crashAt(second, stays))
			if len(p.refused) == 0 {
				t.Fatalf("append %d was not refused", first)
			}
			all.add(p)
			p = newPast(t, 4, 10000)
			p.runs(crashAt(2*first, stays), refuseAt(second))
			all.add(p)
		}
	}
	all.enough(t, 3, 5)
}

// TestP13TheRoomOfTheTurns has them run out of it at every byte.
func TestP13TheRoomOfTheTurns(t *testing.T) {
	all := newTally()
	for room := range 420 {
		p := newPast(t, 4, room)
		p.runs(crashAt(5+room%30, lost()[room%6]))
		all.add(p)
	}
	if all.refused["Checkpoint"] < 100 {
		t.Errorf("Checkpoint was refused %d times: the test is too weak", all.refused["Checkpoint"])
	}
}

// TestP13ACloseBetween: what was not flushed stays as it is over Close and
// Open, and can still be lost then, but not behind a Checkpoint.
func TestP13ACloseBetween(t *testing.T) {
	b := unsaved(t, 10000)
	b.reopen()
	b.crash(api.OK, 0, 0, 0)
	b.delete(api.ErrCrashed, 0, 1)
	b.open(api.OK)
	b.is("hello y", 2)
	b = unsaved(t, 10000)
	b.reopen()
	b.checkpoint(api.OK)
	b.reopen()
	b.crash(api.OK, 0, 0, 0)
	b.delete(api.ErrCrashed, 0, 1)
	b.open(api.OK)
	b.is("hello you", 5)
	b.redoes("ello you")
	b.undoes("hello you", "hello y", "hello", "")
}
