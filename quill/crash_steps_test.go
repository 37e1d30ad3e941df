package quill_test

import (
	"slices"
	"testing"

	"quill/api"
)

// TestP10EachStep has the machine stop ahead of each of the 28 steps of all
// calls once, with some of the bytes staying. Until then nothing is seen of it.
func TestP10EachStep(t *testing.T) {
	for after := range 28 {
		for _, one := range []int{0, 1, 4, 5, 6, 8, many} {
			for _, rest := range []int{0, 1, 21, 22, 23, 43, 44, 45, 100, many} {
				crashOnce(t, after, one, rest)
			}
		}
	}
}

func crashOnce(t *testing.T, after, one, rest int) {
	b, beside := opened(t, 100, 5, 1000), opened(t, 100, 5, 1000)
	b.crash(api.OK, after, one, rest)
	left := after
	for _, c := range changes() {
		if left >= c.appends+c.others {
			c.make(b, api.OK)
			c.make(beside, api.OK)
			if !slices.Equal(b.store.Image(), beside.store.Image()) {
				t.Fatalf("Crash(%d, %d, %d) was seen in the files behind %s", after, one, rest, c.name)
			}
			left -= c.appends + c.others
			continue
		}
		c.make(b, api.ErrCrashed)
		b.isClosed()
		b.open(api.OK)
		b.insert(api.OK, 0, "on it goes") // so it is not read-only, and the crash is over
		b.undo(api.OK)
		b.reopen()
		return
	}
	t.Fatalf("Crash(%d, %d, %d) never came", after, one, rest)
}

// TestP10AheadOfEachStepOfAnInsert has the files written out.
func TestP10AheadOfEachStepOfAnInsert(t *testing.T) {
	first, second := record("I", 1, 0, 0, 5), record("I", 2, 5, 5, 4)
	for _, c := range []struct {
		after int
		next  bool // whether the crash is ahead of a call behind the Insert
		files []any
		text  string
	}{
		{0, false, []any{1, "hello", 10, first}, "hello"},
		{1, false, []any{1, "hello you", 10, first}, "hello"},
		{2, true, []any{1, "hello you", 10, first + second}, "hello you"},
	} {
		b := opened(t, 100, 5, 1000)
		b.insert(api.OK, 0, "hello")
		b.crash(api.OK, c.after, many, many)
		if c.next {
			b.insert(api.OK, 5, " you")
			b.undo(api.ErrCrashed)
		} else {
			b.insert(api.ErrCrashed, 5, " you")
		}
		b.has(c.files...)
		b.isClosed()
		b.open(api.OK)
		b.is(c.text, len(c.text)/5+len(c.text)/9)
		b.has(1, c.text, 10, (first + second)[:22*(len(c.text)/5+len(c.text)/9)])
	}
}

// TestP10AheadOfARecord: Delete, Undo and Redo do one step each, and nothing of
// them is there if the machine stops ahead of it.
func TestP10AheadOfARecord(t *testing.T) {
	journal := record("I", 1, 0, 0, 5) + record("D", 2, 0, 1, 0) + record("U", 3, 0, 0, 0)
	for _, c := range []func(b *both, want api.Errno){
		func(b *both, want api.Errno) { b.delete(want, 1, 2) },
		func(b *both, want api.Errno) { b.undo(want) },
		func(b *both, want api.Errno) { b.redo(want) },
	} {
		b := opened(t, 100, 5, 1000)
		b.insert(api.OK, 0, "hello")
		b.delete(api.OK, 0, 1)
		b.undo(api.OK)
		b.sync(api.OK)
		b.crash(api.OK, 0, 0, 0)
		c(b, api.ErrCrashed)
		b.has(1, "hello", 10, journal)
		b.open(api.OK)
		b.is("hello", 3)
		b.crash(api.OK, 1, 0, 0)
		c(b, api.OK)
		b.sync(api.ErrCrashed)
		b.has(1, "hello", 10, journal)
		b.open(api.OK)
		b.redoes("ello")
		b.undoes("hello", "")
	}
}

// TestP10AheadOfASyncsSteps: file 1 is flushed first, then the journal.
func TestP10AheadOfASyncsSteps(t *testing.T) {
	for _, c := range []struct {
		after int
		files []any
		text  string
	}{
		{0, nil, ""}, {1, []any{1, "hello"}, ""}, {2, []any{1, "hello", 10, record("I", 1, 0, 0, 5)}, "hello"},
	} {
		b := opened(t, 100, 5, 1000)
		b.insert(api.OK, 0, "hello")
		b.crash(api.OK, c.after, 0, 0)
		if c.after < 2 {
			b.sync(api.ErrCrashed)
		} else {
			b.sync(api.OK)
			b.sync(api.ErrCrashed) // a second one does its steps again
		}
		b.has(c.files...)
		b.isClosed()
		b.open(api.OK)
		b.is(c.text, len(c.text)/5)
	}
}

// TestP10ASyncOfOneFileAlone does one step, and one of none does none.
func TestP10ASyncOfOneFileAlone(t *testing.T) {
	file := saved{epoch: 3, done: 1, buffered: 3, text: of(0, 3)}.bytes()
	b := loaded(t, 100, 5, 1000, 1, "abc", 2, file)
	b.open(api.OK)
	b.crash(api.OK, 1, 0, 0)
	b.sync(api.OK)
	b.sync(api.ErrCrashed)
	b.has(1, "abc", 2, file)
	file = saved{epoch: 3, done: 1}.bytes()
	b = loaded(t, 100, 5, 1000, 2, file)
	b.open(api.OK)
	b.crash(api.OK, 1, 0, 0)
	b.sync(api.OK)
	b.sync(api.OK)
	b.insert(api.ErrCrashed, 0, "abc")
	b.has(2, file)
	b.open(api.OK)
	b.undo(api.ErrNothing)
}

// TestP10AheadOfEachStepOfOpen: others go in the order of their numbers, then
// the journal is cut, then file 1. The next Open finds the same.
func TestP10AheadOfEachStepOfOpen(t *testing.T) {
	right := record("I", 1, 0, 0, 5)
	journal := right + record("D", 2, 9, 9, 0)
	states := [][]any{
		{0, "x", 1, "hello you", 3, "y", 9, "z", 10, journal, 11, "w", 1000, "v"},
		{1, "hello you", 3, "y", 9, "z", 10, journal, 11, "w", 1000, "v"},
		{1, "hello you", 9, "z", 10, journal, 11, "w", 1000, "v"},
		{1, "hello you", 10, journal, 11, "w", 1000, "v"},
		{1, "hello you", 10, journal, 1000, "v"},
		{1, "hello you", 10, journal},
		{1, "hello you", 10, right},
		{1, "hello", 10, right},
	}
	stopsAtEach(t, states, "hello", 1)
}

// TestP10AheadOfEachStepOfOpenWithNothingRight: the journal and file 1 are removed then.
func TestP10AheadOfEachStepOfOpenWithNothingRight(t *testing.T) {
	stopsAtEach(t, [][]any{{1, "hello", 3, "y", 10, "J"}, {1, "hello", 10, "J"}, {1, "hello"}, nil}, "", 0)
}

// TestP10AheadOfEachStepOfOpenWithACheckpoint: that stays.
func TestP10AheadOfEachStepOfOpenWithACheckpoint(t *testing.T) {
	file := saved{epoch: 1, done: 4, buffered: 3, text: of(0, 3)}.bytes()
	stopsAtEach(t, [][]any{
		{1, "abcdef", 2, file, 3, file, 10, "J", 11, record("I", 5, 0, 3, 4)},
		{1, "abcdef", 2, file, 10, "J", 11, record("I", 5, 0, 3, 4)},
		{1, "abcdef", 2, file, 11, record("I", 5, 0, 3, 4)},
		{1, "abcdef", 2, file},
		{1, "abc", 2, file},
	}, "abc", 4)
}

// stopsAtEach opens a disk that has the first of these states, and has the
// machine stop ahead of each step, which leads to the state of that number.
func stopsAtEach(t *testing.T, states [][]any, text string, done int) {
	t.Helper()
	last := len(states) - 1
	for after := range last {
		for _, stays := range []int{0, 1, many} {
			b := loaded(t, 100, 5, 5000, states[0]...)
			b.crash(api.OK, after, stays, stays)
			b.open(api.ErrCrashed)
			b.has(states[after]...)
			b.isClosed()
			b.open(api.OK)
			b.has(states[last]...)
			b.is(text, done)
		}
	}
	b := loaded(t, 100, 5, 5000, states[0]...)
	b.crash(api.OK, last, 0, 0)
	b.open(api.OK)
	b.has(states[last]...)
	b.insert(api.ErrCrashed, 0, "x") // so Open did as many steps, and no more
	b.has(states[last]...)
	b = loaded(t, 100, 5, 5000, states[0]...)
	for after := range last { // a crash in each Open
		b.crash(api.OK, 1, 0, 0)
		if after < last-1 {
			b.open(api.ErrCrashed)
		} else {
			b.open(api.OK)
		}
		b.has(states[after+1]...)
	}
	b.is(text, done)
}

// TestP10AnOpenOfWhatIsNotFlushed: what Close left is lost in it too.
func TestP10AnOpenOfWhatIsNotFlushed(t *testing.T) {
	for _, c := range []struct {
		one, rest int
		files     []any
		text      string
	}{
		{0, 0, []any{1, "ab", 10, record("I", 1, 0, 0, 2)}, "ab"},
		{2, 22, []any{1, "abcd", 10, record("I", 1, 0, 0, 2) + record("I", 2, 2, 2, 2)}, "abcd"},
		{3, 21, []any{1, "abcdx", 10, record("I", 1, 0, 0, 2) + record("I", 2, 2, 2, 2)[:21]}, "ab"},
		{1, many, []any{1, "abc", 10, record("I", 1, 0, 0, 2) + record("I", 2, 2, 2, 2)}, "ab"},
	} {
		b := opened(t, 100, 5, 1000)
		b.insert(api.OK, 0, "ab")
		b.sync(api.OK)
		b.insert(api.OK, 2, "cd")
		b.refuse(api.OK, 1)
		b.insert(api.ErrNoSpace, 0, "xyz")
		b.close(api.OK)
		b.crash(api.OK, 0, c.one, c.rest)
		b.open(api.ErrCrashed)
		b.has(c.files...)
		b.open(api.OK)
		b.is(c.text, len(c.text)/2)
	}
}
