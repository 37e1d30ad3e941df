package quill_test

import (
	"strings"
	"testing"

	"quill/api"
)

// lastEpoch is an open store of the epoch 999.
func lastEpoch(t *testing.T, room int) *both {
	t.Helper()
	b := loaded(t, 100, 5, room, 1, "hello", 2, lastSaved().bytes())
	b.open(api.OK)
	return b
}

// lastSaved is the checkpoint of lastEpoch.
func lastSaved() saved { return saved{epoch: 999, done: 4, buffered: 5, text: of(0, 5)} }

// TestP8CheckpointErrors: a store that is closed, read-only or in the last epoch.
func TestP8CheckpointErrors(t *testing.T) {
	b := closed(t, 100, 5, 1000)
	b.checkpoint(api.ErrClosed)
	b.has()
	b.open(api.OK)
	b.checkpoint(api.OK)
	b.refuse(api.OK, 0)
	b.insert(api.ErrNoSpace, 0, "a")
	b.checkpoint(api.ErrReadOnly)
	b.close(api.OK)
	b.checkpoint(api.ErrClosed)
	b.has(2, saved{epoch: 1}.bytes())
	b.open(api.OK)
	b.checkpoint(api.OK)
	b.has(2, saved{epoch: 2}.bytes())
	b = loaded(t, 100, 5, 1000, 1, "abc", 2, "K")
	b.open(api.ErrSpoilt)
	b.checkpoint(api.ErrClosed)
	b.has(1, "abc", 2, "K")
	lastEpoch(t, 1000).checkpoint(api.ErrExhausted)
}

// TestP8CheckpointErrorsInTheirOrder has all of them apply in the last epoch,
// on a disk that would refuse and stop.
func TestP8CheckpointErrorsInTheirOrder(t *testing.T) {
	b := lastEpoch(t, 1000)
	b.refuse(api.OK, 0)
	b.delete(api.ErrNoSpace, 0, 1)
	b.refuse(api.OK, 0)
	b.crash(api.OK, 0, 0, 0)
	b.checkpoint(api.ErrReadOnly)
	b.close(api.OK)
	b.checkpoint(api.ErrClosed)
	b.open(api.OK)
	b.checkpoint(api.ErrExhausted)
	b.delete(api.ErrNoSpace, 0, 1) // so both were still to come
	b.reopen()
	b.delete(api.ErrCrashed, 0, 1)
	b.checkpoint(api.ErrClosed)
}

// TestP8ExhaustedChangesNothing: no step is done, all goes on in the same
// epoch, and the store is not read-only; whether there would be room is not asked.
func TestP8ExhaustedChangesNothing(t *testing.T) {
	file := lastSaved().bytes()
	b := lastEpoch(t, 5+len(file)+22+4)
	b.checkpoint(api.ErrExhausted)
	b.has(1, "hello", 2, file)
	b.insert(api.OK, 5, " you")
	journal := record("I", 5, 5, 5, 4)
	b.has(1, "hello you", 2, file, 1009, journal)
	b.checkpoint(api.ErrExhausted)
	b.has(1, "hello you", 2, file, 1009, journal)
	b.crash(api.OK, 0, 0, 0)
	b.checkpoint(api.ErrExhausted)
	b.sync(api.ErrCrashed)
	b.has(1, "hello", 2, file) // so file 1 was not flushed by it
	b.open(api.OK)
	b.is("hello", 4)
	b.checkpoint(api.ErrExhausted)
}

// TestP8EpochsToTheLast goes through all of them, with a journal in every other one.
func TestP8EpochsToTheLast(t *testing.T) {
	b := opened(t, 100, 1, 5000)
	b.insert(api.OK, 0, "a")
	for epoch := 1; epoch <= 999; epoch++ {
		if epoch%2 == 0 {
			b.delete(api.OK, 0, 1)
			b.undo(api.OK)
		}
		b.checkpoint(api.OK)
		if epoch%100 == 0 {
			b.reopen()
		}
	}
	b.has(1, "a", 2, saved{999, 999, 1, of(0, 1), nil, []edit{{0, of(0, 1), nil}}}.bytes())
	b.checkpoint(api.ErrExhausted)
	b.reopen()
	b.checkpoint(api.ErrExhausted)
	b.redoes("")
	b.undoes("a")
	b.has(1, "a", 2, saved{999, 999, 1, of(0, 1), nil, []edit{{0, of(0, 1), nil}}}.bytes(),
		1009, record("R", 1000, 0, 0, 0)+record("U", 1001, 0, 0, 0))
}

// TestP8OfAnEmptyStore: there may be a file 1, a journal, both or neither.
func TestP8OfAnEmptyStore(t *testing.T) {
	b := opened(t, 100, 0, 1000)
	b.checkpoint(api.OK)
	b.has(2, "K"+u32(1)+u32(0)+u32(0)+u32(0)+u32(0)+u32(0)+"\xd4\xde\x33\x0c")
	b.is("", 0)
	b.checkpoint(api.OK)
	b.has(2, saved{epoch: 2}.bytes())
	b.insert(api.OK, 0, "ab")
	b.delete(api.OK, 0, 2)
	b.has(1, "ab", 2, saved{epoch: 2}.bytes(), 12, record("I", 1, 0, 0, 2)+record("D", 2, 0, 2, 0))
	b.checkpoint(api.OK)
	b.has(1, "ab", 2, saved{epoch: 3, done: 2, buffered: 2}.bytes())
	b.checkpoint(api.OK)
	b.has(1, "ab", 2, saved{epoch: 4, done: 2, buffered: 2}.bytes())
	b.reopen()
	b.has(1, "ab", 2, saved{epoch: 4, done: 2, buffered: 2}.bytes())
	b.is("", 2)
	b = loaded(t, 100, 5, 1000, 2, saved{epoch: 7, done: 3, undo: []edit{{}}}.bytes())
	b.open(api.OK)
	b.undo(api.OK) // so there is a journal, and no file 1
	b.has(2, saved{epoch: 7, done: 3, undo: []edit{{}}}.bytes(), 17, record("U", 4, 0, 0, 0))
	b.checkpoint(api.OK)
	b.has(2, saved{epoch: 8, done: 4, redo: []edit{{}}}.bytes())
	b.redoes("")
}

// TestP8TheExample is example 7 of the document.
func TestP8TheExample(t *testing.T) {
	b := opened(t, 100, 10, 10000)
	b.insert(api.OK, 0, "hello")
	b.insert(api.OK, 5, " you")
	b.delete(api.OK, 0, 1)
	b.checkpoint(api.OK)
	file := saved{
		epoch: 1, done: 3, buffered: 9, text: of(1, 4, 5, 4),
		undo: []edit{{0, of(0, 1), nil}, {5, nil, of(5, 4)}, {0, nil, of(0, 5)}},
	}.bytes()
	if len(file) != 105 {
		t.Fatalf("the checkpoint has %d bytes, want 105", len(file))
	}
	b.has(1, "hello you", 2, file)
	b.is("ello you", 3)
	b.crash(api.OK, 0, 0, 0)
	b.undo(api.ErrCrashed)
	b.has(1, "hello you", 2, file)
	b.open(api.OK)
	b.is("ello you", 3)
	b.undoes("hello you", "hello", "")
}

// TestP8EveryByte is a whole checkpoint, written out, with a check sum that was
// worked out by nothing of this project.
func TestP8EveryByte(t *testing.T) {
	b := opened(t, 100, 10, 10000)
	b.insert(api.OK, 0, "hello")
	b.insert(api.OK, 2, "XY")
	b.delete(api.OK, 1, 3)
	b.insert(api.OK, 4, "!")
	b.undo(api.OK)
	b.checkpoint(api.OK)
	b.is("hllo", 5)
	want := "K" + "\x00\x00\x00\x01" + "\x00\x00\x00\x05" + "\x00\x00\x00\x08" + // the epoch, Done, the length of file 1
		"\x00\x00\x00\x02" + "\x00\x00\x00\x00" + "\x00\x00\x00\x01" + "\x00\x00\x00\x02" + "\x00\x00\x00\x03" + // h llo
		"\x00\x00\x00\x03" + // what can be undone
		"\x00\x00\x00\x01" + // at 1
		"\x00\x00\x00\x02" + "\x00\x00\x00\x01" + "\x00\x00\x00\x01" + "\x00\x00\x00\x05" + "\x00\x00\x00\x02" + // e XY went
		"\x00\x00\x00\x00" +
		"\x00\x00\x00\x02" + // at 2
		"\x00\x00\x00\x00" +
		"\x00\x00\x00\x01" + "\x00\x00\x00\x05" + "\x00\x00\x00\x02" + // XY came
		"\x00\x00\x00\x00" + // at 0
		"\x00\x00\x00\x00" +
		"\x00\x00\x00\x01" + "\x00\x00\x00\x00" + "\x00\x00\x00\x05" + // hello came
		"\x00\x00\x00\x01" + // what can be done again
		"\x00\x00\x00\x04" + // at 4
		"\x00\x00\x00\x00" +
		"\x00\x00\x00\x01" + "\x00\x00\x00\x07" + "\x00\x00\x00\x01" + // ! came
		"\x53\x68\xf8\x4a"
	b.has(1, "helloXY!", 2, want)
}

// TestP8TheEdits: of both kinds, the first that would be undone or done again
// ahead, with no piece, one and several in them.
func TestP8TheEdits(t *testing.T) {
	b := opened(t, 100, 10, 10000)
	b.insert(api.OK, 0, "abcd")
	b.insert(api.OK, 2, "XY")
	b.insert(api.OK, 3, "1")
	b.delete(api.OK, 1, 5) // of five pieces some or all
	b.insert(api.OK, 1, "-")
	b.is("a-d", 5)
	first, second := edit{0, nil, of(0, 4)}, edit{2, nil, of(4, 2)}
	third, fourth, fifth := edit{3, nil, of(6, 1)}, edit{1, of(1, 1, 4, 1, 6, 1, 5, 1, 2, 1), nil}, edit{1, nil, of(7, 1)}
	all := []edit{fifth, fourth, third, second, first}
	texts := [][]api.Piece{
		of(0, 1, 7, 1, 3, 1), of(0, 1, 3, 1), of(0, 1, 1, 1, 4, 1, 6, 1, 5, 1, 2, 1, 3, 1),
		of(0, 1, 1, 1, 4, 1, 5, 1, 2, 1, 3, 1), of(0, 1, 1, 1, 2, 1, 3, 1), nil,
	}
	redo := []edit{}
	for i, text := range texts {
		b.checkpoint(api.OK)
		b.has(1, "abcdXY1-", 2, saved{i + 1, 5 + i, 8, text, all[i:], redo}.bytes())
		if i < 5 {
			b.undo(api.OK)
			redo = append([]edit{all[i]}, redo...)
		}
	}
	b.undo(api.ErrNothing)
	b.redo(api.OK)
	b.redo(api.OK)
	b.checkpoint(api.OK)
	b.has(1, "abcdXY1-", 2, saved{7, 12, 8, of(0, 2, 4, 2, 2, 2), []edit{second, first}, []edit{third, fourth, fifth}}.bytes())
	b.delete(api.OK, 0, 6) // so nothing can be done again
	b.checkpoint(api.OK)
	b.has(1, "abcdXY1-", 2, saved{8, 13, 8, nil, []edit{{0, of(0, 2, 4, 2, 2, 2), nil}, second, first}, nil}.bytes())
}

// TestP8EditsThatWereRead are written again as they are, if nothing is done:
// with several pieces in both lists, and with none in either.
func TestP8EditsThatWereRead(t *testing.T) {
	c := saved{
		epoch: 4, done: 9, buffered: 6, text: of(5, 1, 0, 2),
		undo: []edit{{1, of(2, 1, 4, 2, 3, 1), of(0, 1, 1, 1)}, {3, nil, nil}, {5, nil, nil}},
		redo: []edit{{0, of(5, 1, 0, 1), of(1, 1, 1, 2, 0, 1)}, {0, of(0, 1), of(0, 1)}},
	}
	b := loaded(t, 100, 10, 1000, 1, "abcdef", 2, c.bytes())
	b.open(api.OK)
	c.epoch = 5
	b.checkpoint(api.OK)
	b.has(1, "abcdef", 2, c.bytes())
	b = loaded(t, 100, 1, 1000, 1, "abcdef", 2, c.bytes())
	b.open(api.OK)
	b.checkpoint(api.OK) // with those alone that were not forgotten
	b.has(1, "abcdef", 2, saved{6, 9, 6, c.text, c.undo[:1], c.redo[:1]}.bytes())
}

// TestP8ForgottenEdits are in no checkpoint.
func TestP8ForgottenEdits(t *testing.T) {
	for depth := range 4 {
		b := opened(t, 100, depth, 1000)
		for i := range 5 {
			b.insert(api.OK, i, "abcde"[i:i+1])
		}
		all := []edit{{4, nil, of(4, 1)}, {3, nil, of(3, 1)}, {2, nil, of(2, 1)}}
		b.checkpoint(api.OK)
		b.has(1, "abcde", 2, saved{1, 5, 5, of(0, 1, 1, 1, 2, 1, 3, 1, 4, 1), all[:depth], nil}.bytes())
		for range depth {
			b.undo(api.OK)
		}
		b.checkpoint(api.OK)
		var redo []edit
		for i := range depth {
			redo = append(redo, all[depth-1-i])
		}
		b.has(1, "abcde", 2, saved{2, 5 + depth, 5, of(0, 1, 1, 1, 2, 1, 3, 1, 4, 1)[:5-depth], nil, redo}.bytes())
	}
}

// TestP8NumbersOfMoreThanOneByte has Done, lengths, offsets and places above
// 255, and as many pieces.
func TestP8NumbersOfMoreThanOneByte(t *testing.T) {
	b := opened(t, 5000, 2, 1000000)
	want := saved{epoch: 1, done: 303, buffered: 700}
	for i := range 300 {
		b.insert(api.OK, i, "x")
		want.text = append(want.text, api.Piece{Off: i, Len: 1})
	}
	b.insert(api.OK, 300, strings.Repeat("y", 200))
	b.insert(api.OK, 500, strings.Repeat("z", 200))
	b.delete(api.OK, 280, 420)
	went := append(append([]api.Piece{}, want.text[280:]...), of(300, 200, 500, 200)...)
	want.text = want.text[:280]
	want.undo = []edit{{280, went, nil}, {500, nil, of(500, 200)}}
	b.checkpoint(api.OK)
	b.has(1, strings.Repeat("x", 300)+strings.Repeat("y", 200)+strings.Repeat("z", 200), 2, want.bytes())
	b.reopen()
	b.undo(api.OK)
	b.undo(api.OK)
	b.is(strings.Repeat("x", 300)+strings.Repeat("y", 200), 305)
}

// TestP8CheckpointChangesNothingOfTheText: neither Done, nor what can be undone
// and done again; and neither does another one.
func TestP8CheckpointChangesNothingOfTheText(t *testing.T) {
	_, _, texts := written()
	for done := range 9 {
		for _, times := range []int{1, 2, 3} {
			b, beside := opened(t, 100, 10, 10000), opened(t, 100, 10, 10000)
			b.changesOf(0, done)
			beside.changesOf(0, done)
			for range times {
				b.checkpoint(api.OK)
				b.is(texts[done], done)
			}
			b.goesAs(beside)
		}
	}
}

// goesAs undoes all, does all again and undoes it once more, in a store and in
// another one beside it: they tell the same. (The models are not asked.)
func (b *both) goesAs(beside *both) {
	b.t.Helper()
	for _, call := range []func(b *both) api.Errno{
		func(b *both) api.Errno { return b.store.Undo() }, func(b *both) api.Errno { return b.store.Redo() },
		func(b *both) api.Errno { return b.store.Undo() },
	} {
		for {
			got, want := call(b), call(beside)
			wants(b.t, "a call", got, want)
			n, _ := beside.store.Length()
			text, _ := beside.store.Read(0, n)
			done, _ := beside.store.Done()
			b.tells(text, done)
			if got != api.OK {
				break
			}
		}
	}
}

// TestP8ASecondCheckpoint stands in place of the first, be it shorter or longer.
func TestP8ASecondCheckpoint(t *testing.T) {
	b := opened(t, 100, 1, 1000)
	b.insert(api.OK, 0, "hello")
	b.checkpoint(api.OK)
	first := saved{1, 1, 5, of(0, 5), []edit{{0, nil, of(0, 5)}}, nil}.bytes()
	b.has(1, "hello", 2, first)
	b.insert(api.OK, 2, "XY")
	b.has(1, "helloXY", 2, first, 11, record("I", 2, 2, 5, 2))
	b.checkpoint(api.OK)
	second := saved{2, 2, 7, of(0, 2, 5, 2, 2, 3), []edit{{2, nil, of(5, 2)}}, nil}.bytes()
	b.has(1, "helloXY", 2, second)
	b.delete(api.OK, 0, 6)
	b.checkpoint(api.OK)
	b.has(1, "helloXY", 2, saved{3, 3, 7, of(4, 1), []edit{{0, of(0, 2, 5, 2, 2, 2), nil}}, nil}.bytes())
	b.delete(api.OK, 0, 1)
	b.checkpoint(api.OK)
	third := saved{4, 4, 7, nil, []edit{{0, of(4, 1), nil}}, nil}.bytes()
	if len(third) >= len(second) {
		t.Fatal("the last one is not shorter")
	}
	b.has(1, "helloXY", 2, third)
	b.reopen()
	b.undoes("o")
}

// TestP8TheNextChange goes to the journal of the next epoch, of whatever kind it is.
func TestP8TheNextChange(t *testing.T) {
	for _, c := range []struct {
		make   func(b *both)
		buffer string
		record string
	}{
		{func(b *both) { b.insert(api.OK, 1, "XY") }, "hello youXY", record("I", 5, 1, 9, 2)},
		{func(b *both) { b.delete(api.OK, 1, 2) }, "hello you", record("D", 5, 1, 2, 0)},
		{func(b *both) { b.undo(api.OK) }, "hello you", record("U", 5, 0, 0, 0)},
		{func(b *both) { b.redo(api.OK) }, "hello you", record("R", 5, 0, 0, 0)},
	} {
		b := opened(t, 100, 10, 1000)
		b.changesOf(0, 4)
		for epoch := 1; epoch <= 3; epoch++ {
			b.checkpoint(api.OK)
			file := b.model.files[2]
			if epoch == 3 {
				c.make(b)
				b.has(1, c.buffer, 2, file, 13, c.record)
				b.sync(api.OK)
				b.reopen()
				b.has(1, c.buffer, 2, file, 13, c.record)
			}
		}
	}
}

// TestP8DoneBehindMaxDone: that limit is asked of a checkpoint that is read
// alone. One that has more is written, and then it is spoilt.
func TestP8DoneBehindMaxDone(t *testing.T) {
	b := loaded(t, 100, 10, 1000, 2, saved{epoch: 1, done: 999999999}.bytes())
	b.open(api.OK)
	b.insert(api.OK, 0, "a")
	b.checkpoint(api.OK)
	b.reopen()
	b.is("a", 1000000000)
	b.delete(api.OK, 0, 1)
	b.checkpoint(api.OK)
	b.is("", 1000000001)
	b.has(1, "a", 2, saved{3, 1000000001, 1, nil, []edit{{0, of(0, 1), nil}, {0, nil, of(0, 1)}}, nil}.bytes())
	b.close(api.OK)
	b.open(api.ErrSpoilt)
}
