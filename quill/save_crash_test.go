package quill_test

import (
	"testing"

	"quill/api"
)

// kept is the first bytes of s that outlive a crash: those that were flushed,
// and so many more.
func kept(s string, flushed, stays int) string { return s[:flushed+min(stays, len(s)-flushed)] }

// listed is files, numbers and bytes one after the other, without those that
// have no bytes.
func listed(files ...any) []any {
	var out []any
	for i := 0; i+1 < len(files); i += 2 {
		if files[i+1].(string) != "" {
			out = append(out, files[i], files[i+1])
		}
	}
	return out
}

// TestP10AheadOfEachStepOfACheckpoint: file 1 is flushed, file 3 is written,
// flushed and moved, the journal is removed. The disk behind each crash, and
// what Open finds on it.
func TestP10AheadOfEachStepOfACheckpoint(t *testing.T) {
	for after := range 5 {
		for _, one := range []int{0, 1, 2, 3, many} {
			for _, rest := range []int{0, 1, 21, 22, 44, 65, 66, 67, len(nextSaved()) - 1, len(nextSaved()), many} {
				b := unsaved(t, 10000)
				b.crash(api.OK, after, one, rest)
				b.checkpoint(api.ErrCrashed)
				b.has(unsavedBehind(after, one, rest)...)
				b.isClosed()
				b.open(api.OK)
				b.comesBackTo(after, one, rest)
			}
		}
	}
}

// unsavedBehind is the files of an unsaved store behind a crash in its Checkpoint.
func unsavedBehind(after, one, rest int) []any {
	buffer, checkpoint, unfinished := "hello you", oldSaved(), ""
	switch after {
	case 0:
		buffer = kept(buffer, 7, one)
	case 2:
		unfinished = kept(nextSaved(), 0, rest)
	case 3:
		unfinished = nextSaved()
	case 4:
		checkpoint = nextSaved()
	}
	return listed(1, buffer, 2, checkpoint, 3, unfinished, 11, kept(unsavedJournal(), 22, rest))
}

// comesBackTo looks what an unsaved store has behind such a crash and Open.
func (b *both) comesBackTo(after, one, rest int) {
	b.t.Helper()
	if after == 4 {
		b.has(1, "hello you", 2, nextSaved())
		b.is("hello you", 5)
		b.redoes("ello you")
		b.undoes("hello you", "hello y", "hello", "")
		return
	}
	more := min(rest/22, 3)
	if after == 0 && one < 2 {
		more = 0
	}
	b.is([]string{"hello y", "hello you", "ello you", "hello you"}[more], 2+more)
	buffer := "hello you"
	if more == 0 {
		buffer = "hello y"
	}
	b.has(1, buffer, 2, oldSaved(), 11, unsavedJournal()[:22*(1+more)])
	b.redoes([][]string{nil, nil, nil, {"ello you"}}[more]...)
	b.undoes([][]string{{"hello", ""}, {"hello y", "hello", ""}, {"hello you", "hello y", "hello", ""}}[min(more, 2)]...)
}

// TestP10BehindACheckpoint: a Checkpoint that was OK did its five steps, and
// whatever is lost behind it was written behind it.
func TestP10BehindACheckpoint(t *testing.T) {
	b := unsaved(t, 10000)
	b.crash(api.OK, 5, 0, 0)
	b.checkpoint(api.OK)
	b.undo(api.ErrCrashed)
	b.has(1, "hello you", 2, nextSaved())
	b.open(api.OK)
	b.is("hello you", 5)
	for _, c := range []struct {
		one, rest int
		text      string
		done      int
	}{
		{0, 0, "hello you", 5}, {3, 0, "hello you", 5}, {0, many, "hello you", 5}, {2, many, "hello you", 5},
		{3, 21, "hello you", 5}, {3, 22, "hello you!!!", 6}, {many, 43, "hello you!!!", 6}, {3, 44, "ello you!!!", 7},
	} {
		b := unsaved(t, 10000)
		b.checkpoint(api.OK)
		b.insert(api.OK, 9, "!!!")
		b.delete(api.OK, 0, 1)
		b.crash(api.OK, 0, c.one, c.rest)
		b.checkpoint(api.ErrCrashed)
		journal := record("I", 6, 9, 9, 3) + record("D", 7, 0, 1, 0)
		b.has(listed(1, kept("hello you!!!", 9, c.one), 2, nextSaved(), 12, kept(journal, 0, c.rest))...)
		b.open(api.OK)
		b.is(c.text, c.done)
		buffer := "hello you!!!"
		if c.done == 5 {
			buffer = "hello you"
			b.redoes("ello you")
		}
		b.has(listed(1, buffer, 2, nextSaved(), 12, b.model.files[12])...)
	}
}

// TestP10TheStepsOfACheckpoint: where there is no file 1, or no journal, there
// is no step of it.
func TestP10TheStepsOfACheckpoint(t *testing.T) {
	for _, c := range []struct {
		steps int
		ready func() *both
	}{
		{3, func() *both { return opened(t, 100, 5, 1000) }},
		{5, func() *both {
			b := opened(t, 100, 5, 1000)
			b.insert(api.OK, 0, "hello")
			return b
		}},
		{4, func() *both {
			b := opened(t, 100, 5, 1000)
			b.insert(api.OK, 0, "hello")
			b.checkpoint(api.OK)
			return b
		}},
		{4, func() *both {
			b := loaded(t, 100, 5, 1000, 2, saved{epoch: 7, undo: []edit{{}}}.bytes())
			b.open(api.OK)
			b.undo(api.OK)
			return b
		}},
	} {
		for after := range c.steps {
			b := c.ready()
			text, done := b.model.string(), b.model.done
			b.crash(api.OK, after, many, many)
			b.checkpoint(api.ErrCrashed)
			b.isClosed()
			b.open(api.OK)
			b.is(text, done)
			b.checkpoint(api.OK)
		}
		b := c.ready()
		b.crash(api.OK, c.steps, 0, 0)
		b.checkpoint(api.OK)
		files := b.store.Image()
		b.insert(api.ErrCrashed, 0, "x")
		for i, f := range b.store.Image() {
			if f != files[i] {
				t.Errorf("file %d is not as the Checkpoint left it", f.Number)
			}
		}
	}
}

// TestP10AFirstCheckpoint: there is none whose place it could take.
func TestP10AFirstCheckpoint(t *testing.T) {
	journal, file := record("I", 1, 0, 0, 5), saved{1, 1, 5, of(0, 5), []edit{{0, nil, of(0, 5)}}, nil}.bytes()
	for after, files := range [][]any{
		{}, {1, "hello"}, {1, "hello"}, {1, "hello", 3, file}, {1, "hello", 2, file}, {1, "hello", 2, file},
	} {
		b := opened(t, 100, 5, 1000)
		b.insert(api.OK, 0, "hello")
		b.crash(api.OK, after, 0, 0)
		if after < 5 {
			b.checkpoint(api.ErrCrashed)
		} else {
			b.checkpoint(api.OK)
			b.undo(api.ErrCrashed)
		}
		b.has(files...)
		b.open(api.OK)
		if after < 4 {
			b.is("", 0)
			b.has()
		} else {
			b.has(1, "hello", 2, file)
			b.is("hello", 1)
			b.undoes("")
		}
	}
	b := opened(t, 100, 5, 1000)
	b.insert(api.OK, 0, "hello")
	b.crash(api.OK, 2, 3, 100)
	b.checkpoint(api.ErrCrashed)
	b.has(1, "hello", 3, file, 10, journal) // all of file 3 is there, and it is none yet
	b.open(api.OK)
	b.has(1, "hello", 10, journal)
	b.is("hello", 1)
}

// TestP10CheckpointsUntilOneIsDone: it stops again and again, a step later each
// time, and then it goes through.
func TestP10CheckpointsUntilOneIsDone(t *testing.T) {
	b := unsaved(t, 10000)
	for after := range 4 {
		b.crash(api.OK, after, many, many)
		b.checkpoint(api.ErrCrashed)
		b.open(api.OK)
		b.is("hello you", 5)
		b.has(unsavedFiles()...)
	}
	b.crash(api.OK, 4, many, many)
	b.checkpoint(api.ErrCrashed) // the new one is there already
	b.open(api.OK)
	b.has(1, "hello you", 2, nextSaved())
	b.checkpoint(api.OK)
	b.is("hello you", 5)
	b.redoes("ello you")
	b.undoes("hello you", "hello y", "hello", "")
}
