package quill_test

import (
	"strings"
	"testing"

	"quill/api"
)

// TestP1CheckpointOfAllPlaces: in stores of all kinds, again and again; the
// model says what it answers.
func TestP1CheckpointOfAllPlaces(t *testing.T) {
	for name, b := range places(t) {
		t.Run(name, func(t *testing.T) {
			b.t = t
			for range 5 {
				b.agree("Checkpoint", b.model.checkpoint(), b.store.Checkpoint())
				b.same()
			}
		})
	}
}

// greatest is a checkpoint with as many pieces in the text as may be, and with
// so many edits of either kind that have as many, one list empty in turns.
func greatest(undo, redo int) saved {
	c := saved{epoch: 1, done: 1000000000, buffered: 1, text: ones(4096)}
	for i := range undo {
		c.undo = append(c.undo, turnsOf(i, edit{0, nil, ones(4096)}))
	}
	for i := range redo {
		c.redo = append(c.redo, turnsOf(i+1, edit{0, nil, ones(4096)}))
	}
	return c
}

// turnsOf is e, or the edit that takes it back.
func turnsOf(i int, e edit) edit {
	if i%2 == 1 {
		return edit{e.where, e.came, e.went}
	}
	return e
}

// TestP1CheckpointOfTheGreatestLoads: with room for a second one, and without.
func TestP1CheckpointOfTheGreatestLoads(t *testing.T) {
	for _, c := range []struct {
		undo, redo int
		want       api.Errno
	}{
		{7, 6, api.OK}, {14, 0, api.OK}, {0, 14, api.OK}, {15, 14, api.ErrNoSpace}, {29, 0, api.ErrNoSpace}, {0, 29, api.ErrNoSpace},
	} {
		file := greatest(c.undo, c.redo)
		b := loaded(t, 5000, 50, 1000000, 1, "a", 2, file.bytes())
		b.open(api.OK)
		b.checkpoint(c.want)
		if c.want == api.OK {
			file.epoch = 2
			b.has(1, "a", 2, file.bytes())
			b.reopen()
			b.checkpoint(api.OK)
		} else {
			b.refused(strings.Repeat("a", 4096), 1000000000)
		}
	}
}

// TestP1CheckpointOfManyPieces: all of them came by records, and go by one call.
func TestP1CheckpointOfManyPieces(t *testing.T) {
	var journal []byte
	for i := range 4096 {
		journal = append(journal, record("I", i+1, i/2, i, 1)...)
	}
	b := loaded(t, 5000, 50, 1000000, 1, strings.Repeat("ab", 2048), 10, string(journal))
	b.open(api.OK)
	b.checkpoint(api.OK)
	b.delete(api.OK, 0, 4096)
	b.checkpoint(api.OK)
	b.undo(api.OK)
	b.checkpoint(api.OK)
	b.reopen()
	b.insert(api.ErrFull, 0, "x")
	b.redo(api.OK)
	b.insert(api.OK, 0, "x")
	b.checkpoint(api.OK)
	b.reopen()
	b.is("x", 4100)
}

// TestP1CheckpointBeyondAllRoom: an Undo has brought so many pieces that it
// would be longer than any disk has room for.
func TestP1CheckpointBeyondAllRoom(t *testing.T) {
	file := greatest(31, 0)
	file.text, file.undo = nil, file.undo[1:]
	b := loaded(t, 5000, 50, 1000000, 1, "a", 2, file.bytes())
	b.open(api.OK)
	b.undo(api.OK)
	if n := len(b.model.saved().bytes()); n <= 1000000 {
		t.Fatalf("it would have %d bytes: the test is too weak", n)
	}
	b.checkpoint(api.ErrNoSpace)
	b.refused(strings.Repeat("a", 4096), 1000000001)
	b.redoes("")
}

// TestP2CheckpointsOfStoresBesideOneAnother: each has its own, and its own epoch.
func TestP2CheckpointsOfStoresBesideOneAnother(t *testing.T) {
	var all []*both
	for range 6 {
		b := opened(t, 100, 3, 1000)
		b.insert(api.OK, 0, "hello")
		all = append(all, b)
	}
	for round := range 5 {
		for i, b := range all {
			if round < i {
				b.checkpoint(api.OK)
			} else {
				b.insert(api.OK, 0, "x")
			}
		}
	}
	for i, b := range all {
		file, journal := "", record("I", 1, 0, 0, 5)
		if i > 0 {
			file, journal = saved{i, 1, 5, of(0, 5), []edit{{0, nil, of(0, 5)}}, nil}.bytes(), ""
		}
		for n := range 5 - i {
			journal += record("I", 2+n, 0, 5+n, 1)
		}
		b.has(listed(1, "hello"+"xxxxx"[i:], 2, file, 10+i, journal)...)
		b.reopen()
		b.is("xxxxx"[i:]+"hello", 6-i)
	}
}

// TestP2FaultsInCheckpointsOfStoresBesideOneAnother: each has its own.
func TestP2FaultsInCheckpointsOfStoresBesideOneAnother(t *testing.T) {
	var all []*both
	for i := range 7 {
		b := unsaved(t, 10000)
		switch {
		case i < 5:
			b.crash(api.OK, i, i, 22*i)
		case i == 5:
			b.refuse(api.OK, 0)
		}
		all = append(all, b)
	}
	for i, b := range all {
		switch {
		case i < 5:
			b.checkpoint(api.ErrCrashed)
		case i == 5:
			b.checkpoint(api.ErrNoSpace)
		default:
			b.checkpoint(api.OK)
		}
	}
	for i, b := range all {
		switch {
		case i < 5:
			b.has(unsavedBehind(i, i, 22*i)...)
			b.open(api.OK)
			b.comesBackTo(i, i, 22*i)
		case i == 5:
			b.has(unsavedFiles()...)
			b.refused("hello you", 5)
			b.goesOn()
		default:
			b.has(1, "hello you", 2, nextSaved())
		}
	}
}

// TestP2ACheckpointStaysAsItIs: whatever is called behind it, up to the next one.
func TestP2ACheckpointStaysAsItIs(t *testing.T) {
	b := unsaved(t, 10000)
	b.checkpoint(api.OK)
	before := b.store.Image()
	spoil(b.store.Image())
	b.redoes("ello you")
	b.undoes("hello you", "hello y", "hello", "")
	b.redo(api.OK)
	b.insert(api.OK, 2, "new")
	b.delete(api.OK, 1, 3)
	b.sync(api.OK)
	if file := b.store.Image()[1].Bytes; file != nextSaved() {
		t.Errorf("the checkpoint is %q now, want %q", file, nextSaved())
	}
	b.checkpoint(api.OK)
	if before[0].Bytes != "hello you" || before[1].Bytes != nextSaved() || len(before) != 2 {
		t.Errorf("an image that was told ahead of other calls is %s now", short(before))
	}
	other := closed(t, 1000, 10, 10000)
	other.load(api.OK, before)
	other.open(api.OK)
	other.is("hello you", 5)
	other.checkpoint(api.OK)
	b.is("hwllo", 5+1+4+1+2)
}
