package quill_test

import (
	"slices"
	"strings"
	"testing"

	"quill/api"
)

// good is a checkpoint with edits of both kinds. The text is "abd"; ahead of it
// were "acd" and "cd", behind it come "abxy" and "y".
func good() saved {
	return saved{
		epoch: 3, done: 7, buffered: 6, text: of(0, 2, 3, 1),
		undo: []edit{{1, of(2, 1), of(1, 1)}, {0, nil, of(0, 1)}},
		redo: []edit{{2, of(3, 1), of(4, 2)}, {0, of(0, 2, 4, 1), nil}},
	}
}

// goodIs looks that a store stands as good says.
func (b *both) goodIs() {
	b.t.Helper()
	b.is("abd", 7)
	b.redoes("abxy", "y")
	b.undoes("abxy", "abd", "acd", "cd")
	b.redoes("acd", "abd", "abxy", "y")
}

func TestP12ACheckpoint(t *testing.T) {
	b := loaded(t, 100, 10, 1000, 1, "abcdxy", 2, good().bytes())
	b.open(api.OK)
	b.has(1, "abcdxy", 2, good().bytes())
	b.goodIs()
	b.reopen()
	b.is("y", 7+2+4+4)
	b.undoes("abxy", "abd", "acd", "cd")
}

// TestP12ACheckpointAlone: the least ones that may be.
func TestP12ACheckpointAlone(t *testing.T) {
	for _, c := range []saved{{epoch: 1}, {epoch: 999, done: 1000000000}, {epoch: 5, done: 3}} {
		b := loaded(t, 100, 10, 1000, 2, c.bytes())
		b.open(api.OK)
		b.is("", c.done)
		b.undo(api.ErrNothing)
		b.redo(api.ErrNothing)
		b.has(2, c.bytes())
		b.insert(api.OK, 0, "ab")
		b.has(1, "ab", 2, c.bytes(), 10+c.epoch, record("I", c.done+1, 0, 0, 2))
		b.reopen()
		b.is("ab", c.done+1)
		b.undoes("")
	}
}

// TestP12ACheckpointWithItsJournal goes on with Done and the length so far.
func TestP12ACheckpointWithItsJournal(t *testing.T) {
	journal := record("R", 8, 0, 0, 0) + record("U", 9, 0, 0, 0) + record("U", 10, 0, 0, 0) + record("I", 11, 3, 6, 2) + record("D", 12, 0, 1, 0)
	texts := []string{"abd", "abxy", "abd", "acd", "acd12", "cd12"}
	for n := 0; n <= len(journal); n++ {
		b := loaded(t, 100, 10, 1000, 1, "abcdxy12", 2, good().bytes())
		if n > 0 {
			b = loaded(t, 100, 10, 1000, 1, "abcdxy12", 2, good().bytes(), 13, journal[:n])
		}
		b.open(api.OK)
		done := n / 22
		b.is(texts[done], 7+done)
		buffer := "abcdxy"
		if done >= 4 {
			buffer += "12"
		}
		if done == 0 {
			b.has(1, buffer, 2, good().bytes())
		} else {
			b.has(1, buffer, 2, good().bytes(), 13, journal[:22*done])
		}
	}
}

// TestP12ARecordOfAnotherDone: the journal must go on from the checkpoint.
func TestP12ARecordOfAnotherDone(t *testing.T) {
	for _, done := range []int{0, 1, 6, 7, 9} {
		b := loaded(t, 100, 10, 1000, 1, "abcdxy", 2, good().bytes(), 13, record("D", done, 0, 1, 0))
		b.open(api.OK)
		b.has(1, "abcdxy", 2, good().bytes())
		b.goodIs()
	}
	b := loaded(t, 100, 10, 1000, 1, "abcdxy1", 2, good().bytes(), 13, record("I", 8, 0, 0, 1))
	b.open(api.OK) // its second number is not the length so far
	b.goodIs()
}

// TestP12DoneGoesOnBehindMaxDone: that limit is asked of a checkpoint alone.
func TestP12DoneGoesOnBehindMaxDone(t *testing.T) {
	c := saved{epoch: 1, done: 1000000000, buffered: 1, text: of(0, 1)}
	b := loaded(t, 100, 10, 1000, 1, "ab", 2, c.bytes(), 11, record("I", 1000000001, 1, 1, 1))
	b.open(api.OK)
	b.is("ab", 1000000001)
	b.delete(api.OK, 0, 1)
	b.reopen()
	b.is("b", 1000000002)
}

// TestP12TheBufferIsCut to what the checkpoint and its journal speak of.
func TestP12TheBufferIsCut(t *testing.T) {
	c := good()
	b := loaded(t, 100, 10, 1000, 1, "abcdxy and more", 2, c.bytes(), 13, "?")
	b.open(api.OK)
	b.has(1, "abcdxy", 2, c.bytes())
	b.goodIs()
	c = saved{epoch: 1, done: 4}
	b = loaded(t, 100, 10, 1000, 1, "abc", 2, c.bytes())
	b.open(api.OK)
	b.has(2, c.bytes())
}

// TestP12ForgottenBeyondDepth: of either kind the first ones stay.
func TestP12ForgottenBeyondDepth(t *testing.T) {
	for depth := range 4 {
		b := loaded(t, 100, depth, 1000, 1, "abcdxy", 2, good().bytes())
		b.open(api.OK)
		b.is("abd", 7)
		b.undoes([]string{"acd", "cd"}[:min(depth, 2)]...)
		b.close(api.OK)
		b.load(api.OK, filesOf(1, "abcdxy", 2, good().bytes()))
		b.open(api.OK)
		b.redoes([]string{"abxy", "y"}[:min(depth, 2)]...)
	}
}

// opens looks what Open answers to a checkpoint beside a buffer.
func opens(t *testing.T, want api.Errno, buffer, file string) {
	t.Helper()
	files := []any{2, file}
	if buffer != "" {
		files = []any{1, buffer, 2, file}
	}
	b := loaded(t, 5000, 50, 1000000, files...)
	before := b.store.Image()
	b.open(want)
	if want == api.OK {
		b.open(api.ErrOpen)
		return
	}
	b.insert(api.ErrClosed, 0, "x")
	b.close(api.ErrClosed)
	if !slices.Equal(b.store.Image(), before) {
		t.Fatal("Open was an error, and changed the disk")
	}
	b.open(want)
	b.load(api.OK, nil)
	b.open(api.OK)
	b.is("", 0)
}

// TestP12SpoiltAnywhere has each bit be wrong once, and too few or too many
// bytes be there, with a wrong check sum and with a right one.
func TestP12SpoiltAnywhere(t *testing.T) {
	file := good().bytes()
	for i := range file {
		for bit := range 8 {
			opens(t, api.ErrSpoilt, "abcdxy", file[:i]+string([]byte{file[i] ^ 1<<bit})+file[i+1:])
		}
		if i > 0 {
			opens(t, api.ErrSpoilt, "abcdxy", file[:i])
			opens(t, api.ErrSpoilt, "abcdxy", file[i:])
		}
	}
	body := good().body()
	for i := range len(body) {
		opens(t, api.ErrSpoilt, "abcdxy", sealed(body[:i]))
	}
	opens(t, api.ErrSpoilt, "abcdxy", file+"\x00")
	opens(t, api.ErrSpoilt, "abcdxy", "\x00"+file)
	opens(t, api.ErrSpoilt, "abcdxy", file+file)
	for _, more := range []string{"\x00", "\x00\x00\x00", u32(0), u32(1), u32(0) + u32(0)} {
		opens(t, api.ErrSpoilt, "abcdxy", sealed(body+more))
	}
	for _, letter := range []string{"J", "k", "L", "\x00"} {
		opens(t, api.ErrSpoilt, "abcdxy", sealed(letter+body[1:]))
	}
	opens(t, api.OK, "abcdxy", file)
}

// TestP12TheNumbersOfACheckpoint has each at its edges and beyond them.
func TestP12TheNumbersOfACheckpoint(t *testing.T) {
	for _, c := range []struct {
		want api.Errno
		with func(c *saved)
	}{
		{api.ErrSpoilt, func(c *saved) { c.epoch = 0 }},
		{api.OK, func(c *saved) { c.epoch = 1 }},
		{api.OK, func(c *saved) { c.epoch = 999 }},
		{api.ErrSpoilt, func(c *saved) { c.epoch = 1000 }},
		{api.ErrSpoilt, func(c *saved) { c.epoch = 1<<32 - 1 }},
		{api.ErrSpoilt, func(c *saved) { c.epoch = 1<<24 + 3 }},
		{api.OK, func(c *saved) { c.done = 0 }},
		{api.OK, func(c *saved) { c.done = 1000000000 }},
		{api.ErrSpoilt, func(c *saved) { c.done = 1000000001 }},
		{api.ErrSpoilt, func(c *saved) { c.done = 1<<32 - 1 }},
		{api.OK, func(c *saved) { c.buffered = 7 }},
		{api.OK, func(c *saved) { c.buffered = 8 }},
		{api.ErrSpoilt, func(c *saved) { c.buffered = 9 }},
		{api.ErrSpoilt, func(c *saved) { c.buffered = 1<<32 - 1 }},
		{api.ErrSpoilt, func(c *saved) { c.buffered = 5 }}, // an edit reaches to 6
		{api.ErrSpoilt, func(c *saved) { c.buffered = 0 }},
	} {
		s := good()
		c.with(&s)
		opens(t, c.want, "abcdxy12", s.bytes())
	}
	opens(t, api.ErrSpoilt, "", good().bytes())
	opens(t, api.ErrSpoilt, "", saved{epoch: 1, buffered: 1}.bytes())
	opens(t, api.ErrSpoilt, "abcdx", good().bytes())
}

// lists is where pieces can stand in a checkpoint: the text, and what went and
// came by an edit of either kind. Beside them there is what makes the edits fit.
func lists() map[string]func(list []api.Piece) saved {
	whole := of(0, 5000)
	return map[string]func([]api.Piece) saved{
		"the text":         func(l []api.Piece) saved { return saved{text: l} },
		"undo: what went":  func(l []api.Piece) saved { return saved{undo: []edit{{0, l, nil}}} },
		"undo: what came":  func(l []api.Piece) saved { return saved{text: whole, undo: []edit{{0, nil, l}}} },
		"redo: what went":  func(l []api.Piece) saved { return saved{text: whole, redo: []edit{{0, l, nil}}} },
		"redo: what came":  func(l []api.Piece) saved { return saved{redo: []edit{{0, nil, l}}} },
		"a second one":     func(l []api.Piece) saved { return saved{undo: []edit{{}, {0, l, nil}}} },
		"beside an unlike": func(l []api.Piece) saved { return saved{undo: []edit{{}}, redo: []edit{{0, nil, l}}} },
	}
}

// TestP12ThePiecesOfACheckpoint has each list of pieces at its edges and beyond them.
func TestP12ThePiecesOfACheckpoint(t *testing.T) {
	buffer := strings.Repeat("a", 6000) // of which the checkpoint speaks of 5500
	for name, with := range lists() {
		t.Run(name, func(t *testing.T) {
			for _, c := range []struct {
				want api.Errno
				list []api.Piece
			}{
				{api.OK, nil},
				{api.OK, of(0, 1)},
				{api.ErrSpoilt, of(0, 0)},
				{api.ErrSpoilt, of(0, 1, 3, 0)},
				{api.ErrSpoilt, of(5500, 0)},
				{api.OK, of(0, 5000)},
				{api.ErrSpoilt, of(0, 5001)},
				{api.ErrSpoilt, of(0, 1<<32-1)},
				{api.OK, of(5499, 1)},
				{api.ErrSpoilt, of(5500, 1)},
				{api.ErrSpoilt, of(5999, 1)},
				{api.ErrSpoilt, of(1<<32-1, 1)},
				{api.ErrSpoilt, of(1<<32-1, 2)},
				{api.OK, of(5000, 500)},
				{api.ErrSpoilt, of(5000, 501)},
				{api.ErrSpoilt, of(501, 5000)},
				{api.OK, of(500, 4999, 0, 1)},
				{api.ErrSpoilt, of(500, 4999, 0, 2)},
				{api.ErrSpoilt, of(0, 2500, 0, 2500, 0, 1)},
				{api.ErrSpoilt, of(0, 5000, 0, 5000)},
				{api.OK, ones(4096)},
				{api.ErrSpoilt, ones(4097)},
				{api.ErrSpoilt, ones(5000)},
			} {
				s := with(c.list)
				s.epoch, s.buffered = 1, 5500
				opens(t, c.want, buffer, s.bytes())
			}
		})
	}
}

// TestP12ManyMorePiecesThanThereAre has counts that the file can't hold.
func TestP12ManyMorePiecesThanThereAre(t *testing.T) {
	head := "K" + u32(1) + u32(0) + u32(3)
	for _, count := range []int{1, 2, 50, 51, 4096, 4097, 1 << 16, 1 << 29, 1 << 31, 1<<32 - 1} {
		opens(t, api.ErrSpoilt, "abc", sealed(head+u32(count)))
		opens(t, api.ErrSpoilt, "abc", sealed(head+u32(count)+u32(0)+u32(0)))
		opens(t, api.ErrSpoilt, "abc", sealed(head+u32(0)+u32(count)))
		opens(t, api.ErrSpoilt, "abc", sealed(head+u32(0)+u32(count)+u32(0)))
		opens(t, api.ErrSpoilt, "abc", sealed(head+u32(0)+u32(0)+u32(count)))
	}
	opens(t, api.OK, "abc", sealed(head+u32(0)+u32(0)+u32(0)))
}

// TestP12TheEditsOfACheckpoint has as many as may be of either kind.
func TestP12TheEditsOfACheckpoint(t *testing.T) {
	none := make([]edit, 60)
	for _, count := range []int{0, 1, 49, 50, 51, 60} {
		want := api.OK
		if count > 50 {
			want = api.ErrSpoilt
		}
		opens(t, want, "", saved{epoch: 1, undo: none[:count]}.bytes())
		opens(t, want, "", saved{epoch: 1, redo: none[:count]}.bytes())
		opens(t, want, "", saved{epoch: 1, undo: none[:count], redo: none[:50]}.bytes())
		opens(t, want, "", saved{epoch: 1, undo: none[:50], redo: none[:count]}.bytes())
	}
}

// TestP12FiftyEditsAreUndone: as many as there may be, of both kinds.
func TestP12FiftyEditsAreUndone(t *testing.T) {
	c := saved{epoch: 1, done: 50, buffered: 100, text: of(0, 50)}
	for i := range 50 {
		c.undo = append(c.undo, edit{49 - i, nil, of(49-i, 1)})
		c.redo = append(c.redo, edit{50 + i, nil, of(50+i, 1)})
	}
	buffer := strings.Repeat("0123456789", 10)
	for _, depth := range []int{1, 49, 50} {
		b := loaded(t, 100, depth, 10000, 1, buffer, 2, c.bytes())
		b.open(api.OK)
		for range depth {
			b.undo(api.OK)
		}
		b.undo(api.ErrNothing)
		b.is(buffer[:50-depth], 50+depth)
		b = loaded(t, 100, depth, 10000, 1, buffer, 2, c.bytes())
		b.open(api.OK)
		for range depth {
			b.redo(api.OK)
		}
		b.redo(api.ErrNothing)
		b.is(buffer[:50+depth], 50+depth)
	}
}

// TestP12EditsOfNothing: both lists of an edit may be empty; such a one does
// nothing, but it counts.
func TestP12EditsOfNothing(t *testing.T) {
	for _, where := range []int{0, 1, 3} {
		c := saved{epoch: 1, done: 2, buffered: 3, text: of(0, 3), undo: []edit{{where: where}}, redo: []edit{{where: where}}}
		b := loaded(t, 100, 10, 1000, 1, "abc", 2, c.bytes())
		b.open(api.OK)
		b.undoes("abc")
		b.redoes("abc", "abc")
		b.is("abc", 5)
	}
}

// TestP12EditsFit has edits find as many bytes as they must, at the edges.
func TestP12EditsFit(t *testing.T) {
	big := of(0, 5000)
	for _, c := range []struct {
		want  api.Errno
		text  []api.Piece
		edits []edit // told as what can be done again
	}{
		{api.OK, of(0, 3), []edit{{0, of(0, 3), nil}}},
		{api.OK, of(0, 3), []edit{{2, of(0, 1), nil}}},
		{api.ErrSpoilt, of(0, 3), []edit{{3, of(0, 1), nil}}},
		{api.ErrSpoilt, of(0, 3), []edit{{1, of(0, 3), nil}}},
		{api.ErrSpoilt, of(0, 3), []edit{{0, of(0, 4), nil}}},
		{api.OK, of(0, 3), []edit{{3, nil, of(0, 1)}}},
		{api.ErrSpoilt, of(0, 3), []edit{{4, nil, of(0, 1)}}},
		{api.OK, of(0, 3), []edit{{3, nil, nil}}},
		{api.ErrSpoilt, of(0, 3), []edit{{4, nil, nil}}},
		{api.ErrSpoilt, of(0, 3), []edit{{1<<32 - 1, nil, nil}}},
		{api.ErrSpoilt, of(0, 3), []edit{{1<<32 - 1, of(0, 2), nil}}},
		{api.ErrSpoilt, of(0, 3), []edit{{1 << 31, of(0, 2), nil}}},
		{api.ErrSpoilt, nil, []edit{{0, of(0, 1), nil}}},
		{api.ErrSpoilt, nil, []edit{{1, nil, nil}}},
		{api.OK, nil, []edit{{0, nil, of(0, 1)}}},
		{api.OK, of(0, 3), []edit{{1, of(5, 1), of(5, 1)}}}, // other bytes than the text has
		{api.OK, of(0, 3), []edit{{0, of(0, 1, 2, 2), of(1, 1, 0, 1)}}},
		{api.ErrSpoilt, of(0, 3), []edit{{0, of(0, 1, 2, 3), nil}}},
		// one behind the other
		{api.OK, of(0, 3), []edit{{0, of(0, 3), nil}, {0, nil, of(0, 2)}, {1, of(1, 1), nil}}},
		{api.ErrSpoilt, of(0, 3), []edit{{0, of(0, 3), nil}, {0, of(0, 1), nil}}},
		{api.ErrSpoilt, of(0, 3), []edit{{0, of(0, 1), nil}, {3, nil, nil}}},
		{api.OK, of(0, 3), []edit{{3, nil, of(0, 2)}, {5, nil, nil}}},
		{api.ErrSpoilt, of(0, 3), []edit{{3, nil, of(0, 2)}, {6, nil, nil}}},
		{api.OK, of(0, 3), []edit{{3, nil, of(0, 2)}, {0, of(0, 5), nil}}},
		{api.ErrSpoilt, of(0, 3), []edit{{0, of(0, 3), of(0, 1)}, {0, of(0, 3), of(0, 1)}}},
		// never more than MaxLength
		{api.OK, of(0, 3), []edit{{3, nil, of(0, 4997)}}},
		{api.ErrSpoilt, of(0, 3), []edit{{3, nil, of(0, 4998)}}},
		{api.ErrSpoilt, of(0, 3), []edit{{3, nil, of(0, 4998)}, {0, of(0, 1), nil}}},
		{api.ErrSpoilt, of(0, 3), []edit{{0, nil, big}}},
		{api.OK, nil, []edit{{0, nil, big}, {0, big, big}}},
		{api.OK, big, []edit{{0, of(0, 1), of(0, 1)}}},
		{api.ErrSpoilt, big, []edit{{0, of(0, 1), of(0, 2)}}},
		{api.ErrSpoilt, big, []edit{{5000, nil, of(0, 1)}}},
		{api.OK, big, []edit{{5000, nil, nil}}},
		{api.OK, big, []edit{{0, big, nil}, {0, nil, big}}},
	} {
		s := saved{epoch: 1, buffered: 5000, text: c.text, redo: c.edits}
		opens(t, c.want, strings.Repeat("a", 5000), s.bytes())
		s.redo = nil
		for _, e := range c.edits {
			s.undo = append(s.undo, edit{e.where, e.came, e.went})
		}
		opens(t, c.want, strings.Repeat("a", 5000), s.bytes())
	}
}

// TestP12BothKindsFitFromTheText: each kind begins with the text, not where
// the other one ends.
func TestP12BothKindsFitFromTheText(t *testing.T) {
	less := []edit{{0, of(0, 3), nil}} // done again it takes three bytes away
	more := []edit{{0, nil, of(0, 3)}} // undone it takes three bytes away
	opens(t, api.OK, "abcdef", saved{epoch: 1, buffered: 6, text: of(0, 3), undo: more, redo: less}.bytes())
	opens(t, api.ErrSpoilt, "abcdef", saved{epoch: 1, buffered: 6, text: of(0, 2), undo: more}.bytes())
	opens(t, api.ErrSpoilt, "abcdef", saved{epoch: 1, buffered: 6, text: of(0, 2), redo: less}.bytes())
	opens(t, api.ErrSpoilt, "abcdef", saved{epoch: 1, buffered: 6, undo: less, redo: less}.bytes())
	opens(t, api.ErrSpoilt, "abcdef", saved{epoch: 1, buffered: 6, undo: more, redo: more}.bytes())
}

// TestP12EditsBeyondDepthMustFitToo: they are looked at ahead of being forgotten.
func TestP12EditsBeyondDepthMustFitToo(t *testing.T) {
	wrong := []edit{{}, {where: 4}}
	for _, c := range []saved{{undo: wrong}, {redo: wrong}} {
		c.epoch, c.buffered, c.text = 1, 3, of(0, 3)
		b := loaded(t, 100, 1, 1000, 1, "abc", 2, c.bytes())
		b.open(api.ErrSpoilt)
		b = loaded(t, 100, 0, 1000, 1, "abc", 2, c.bytes())
		b.open(api.ErrSpoilt)
	}
}

// TestP12EditsMayBeFull: how many pieces the text would have is not asked by Open.
func TestP12EditsMayBeFull(t *testing.T) {
	for _, c := range []saved{
		{undo: []edit{{0, ones(5), nil}}}, {redo: []edit{{0, nil, ones(5)}}},
	} {
		c.epoch, c.buffered, c.text = 1, 1, ones(4095)
		b := loaded(t, 5000, 5, 100000, 1, "a", 2, c.bytes())
		b.open(api.OK)
		if len(c.undo) > 0 {
			b.undo(api.ErrFull)
		} else {
			b.redo(api.ErrFull)
		}
	}
}

// TestP12EditsOfManyPieces: what went and came stays in its order.
func TestP12EditsOfManyPieces(t *testing.T) {
	c := saved{
		epoch: 1, done: 3, buffered: 6, text: of(5, 1, 0, 2),
		undo: []edit{{1, of(2, 1, 4, 2, 3, 1), of(0, 2)}},
		redo: []edit{{0, of(5, 1, 0, 1), of(1, 1, 1, 2, 0, 1)}},
	}
	b := loaded(t, 100, 10, 1000, 1, "abcdef", 2, c.bytes())
	b.open(api.OK)
	b.is("fab", 3)
	b.undo(api.OK)
	b.is("fcefd", 4)
	b.delete(api.OK, 2, 2)
	b.undo(api.OK)
	b.is("fcefd", 6)
	b = loaded(t, 100, 10, 1000, 1, "abcdef", 2, c.bytes())
	b.open(api.OK)
	b.redo(api.OK)
	b.is("bbcab", 4)
	b.undoes("fab", "fcefd")
	b.redoes("fab", "bbcab")
}

// TestP12WhichBytesIsNotAsked: an edit finds other bytes than it says; undone,
// it brings its own, and done again too.
func TestP12WhichBytesIsNotAsked(t *testing.T) {
	c := saved{epoch: 1, buffered: 5, text: of(0, 3), undo: []edit{{1, of(3, 1), of(4, 1)}}}
	b := loaded(t, 100, 10, 1000, 1, "abcde", 2, c.bytes())
	b.open(api.OK)
	b.is("abc", 0)
	b.undoes("adc")
	b.redoes("aec")
	b.reopen()
	b.undoes("adc")
}

// TestP12MostIsNotAskedOfACheckpoint: its text may be longer than `most`.
func TestP12MostIsNotAskedOfACheckpoint(t *testing.T) {
	c := saved{epoch: 1, buffered: 5, text: of(0, 5)}
	b := loaded(t, 3, 10, 1000, 1, "abcde", 2, c.bytes())
	b.open(api.OK)
	b.is("abcde", 0)
	b.insert(api.ErrLong, 0, "x")
	b.delete(api.OK, 0, 3)
	b.insert(api.OK, 0, "x")
	b.insert(api.ErrLong, 0, "y")
	b.is("xde", 2)
}
