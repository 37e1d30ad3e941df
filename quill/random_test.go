package quill_test

import (
	"cmp"
	"math/rand"
	"slices"
	"strings"
	"testing"

	"quill/api"
)

// anyCall makes some call; the model says what it answers.
func (b *both) anyCall(r *rand.Rand) {
	b.t.Helper()
	size := sizeOf(b.model.text)
	pos := r.Intn(size+3) - 1
	switch r.Intn(15) {
	case 0, 1, 2, 3:
		text := strings.Repeat(string(rune('a'+r.Intn(26))), r.Intn(6))
		b.agree("Insert", b.model.change("I", pos, len(text), text), b.store.Insert(pos, text))
	case 4, 5, 6:
		n := r.Intn(5)
		b.agree("Delete", b.model.change("D", pos, n, ""), b.store.Delete(pos, n))
	case 7, 8, 9:
		b.agree("Undo", b.model.change("U", 0, 0, ""), b.store.Undo())
	case 10, 11:
		b.agree("Redo", b.model.change("R", 0, 0, ""), b.store.Redo())
	case 12:
		b.read(pos, r.Intn(8)-1)
		b.agree("Sync", b.model.sync(), b.store.Sync())
	case 13:
		b.agree("Open", b.model.openUp(), b.store.Open())
		if r.Intn(2) == 0 {
			b.agree("Close", b.model.close(), b.store.Close())
		}
	case 14:
		b.agree("Checkpoint", b.model.checkpoint(), b.store.Checkpoint())
	}
	b.same()
}

// anyFault asks for a crash or a refusal now and then, and opens a store that
// is closed.
func (b *both) anyFault(r *rand.Rand) {
	b.t.Helper()
	switch r.Intn(12) {
	case 0:
		after, one, rest := r.Intn(9)-1, r.Intn(9)-1, r.Intn(200)-1
		b.agree("Crash", b.model.willCrash(after, one, rest), b.store.Crash(after, one, rest))
	case 1:
		after := r.Intn(9) - 1
		b.agree("Refuse", b.model.willRefuse(after), b.store.Refuse(after))
	case 2, 3, 4:
		if b.model.readOnly {
			b.agree("Close", b.model.close(), b.store.Close())
		}
		b.agree("Open", b.model.openUp(), b.store.Open())
	}
	b.same()
}

func (b *both) agree(what string, want, got api.Errno) {
	b.t.Helper()
	if got != want {
		b.t.Fatalf("%s = %d, the model's answer %d", what, got, want)
	}
}

// TestP6ManyCalls makes many calls of all kinds, in stores with all kinds of limits.
func TestP6ManyCalls(t *testing.T) {
	r := rand.New(rand.NewSource(6))
	for range 150 {
		b := opened(t, r.Intn(60), r.Intn(6), r.Intn(3000))
		for range 120 {
			b.anyCall(r)
		}
	}
}

// TestP10ManyFaults makes many calls with many crashes and refusals among them,
// on disks of all sizes and with files of all kinds.
func TestP10ManyFaults(t *testing.T) {
	r := rand.New(rand.NewSource(9))
	for range 150 {
		b := opened(t, r.Intn(60), r.Intn(6), r.Intn(1500))
		for range 100 {
			b.anyFault(r)
			b.anyCall(r)
			if !b.model.open && r.Intn(4) == 0 {
				b.loadMore(r)
			}
		}
	}
}

// loadMore lays some other files beside those that are there, if there is room.
func (b *both) loadMore(r *rand.Rand) {
	b.t.Helper()
	files := b.store.Image()
	for range r.Intn(4) {
		number := r.Intn(20)
		at, there := slices.BinarySearchFunc(files, number, func(f api.File, n int) int { return cmp.Compare(f.Number, n) })
		if !there && number != 2 {
			files = slices.Insert(files, at, api.File{Number: number, Bytes: strings.Repeat("x", 1+r.Intn(5))})
		}
	}
	b.agree("Load", b.model.load(files), b.store.Load(files))
	b.same()
}

// TestP12ManyDisks opens disks that some calls wrote, each with something wrong
// at some place.
func TestP12ManyDisks(t *testing.T) {
	r := rand.New(rand.NewSource(12))
	for range 400 {
		b := opened(t, 60, r.Intn(5), 3000)
		for range 5 + r.Intn(30) {
			b.anyCall(r)
		}
		files := b.store.Image()
		for i := range files {
			if r.Intn(2) == 0 {
				files[i].Bytes = harmed(r, files[i].Bytes)
			}
		}
		other := closed(t, r.Intn(60), r.Intn(5), 4000)
		other.load(api.OK, files)
		other.open(other.model.mayOpen())
		for range 15 {
			other.anyCall(r)
		}
	}
}

// harmed is bytes of which some at the end are lost, one is another or some are too many.
func harmed(r *rand.Rand, bytes string) string {
	at := r.Intn(len(bytes))
	switch r.Intn(3) {
	case 0:
		return bytes[:at+1]
	case 1:
		return bytes[:at] + string([]byte{bytes[at] ^ 1<<r.Intn(8)}) + bytes[at+1:]
	}
	return bytes + bytes[at:]
}

// anyPieces is some pieces of a buffer of so many bytes.
func anyPieces(r *rand.Rand, most, buffer int) []api.Piece {
	var list []api.Piece
	for range r.Intn(most + 1) {
		off := r.Intn(buffer)
		list = append(list, api.Piece{Off: off, Len: 1 + r.Intn(buffer-off)})
	}
	return list
}

// anyEdits is some edits that fit a text of so many bytes, told as they are done.
func anyEdits(r *rand.Rand, size, buffer int) []edit {
	var list []edit
	for range r.Intn(6) {
		e := edit{went: anyPieces(r, 2, buffer), came: anyPieces(r, 2, buffer)}
		if sizeOf(e.went) > size {
			e.went = nil
		}
		e.where = r.Intn(size - sizeOf(e.went) + 1)
		size += sizeOf(e.came) - sizeOf(e.went)
		list = append(list, e)
	}
	return list
}

// anySaved is some checkpoint that is right.
func anySaved(r *rand.Rand, buffer int) saved {
	c := saved{epoch: 1 + r.Intn(999), done: r.Intn(1000), buffered: buffer, text: anyPieces(r, 5, buffer)}
	c.redo = anyEdits(r, sizeOf(c.text), buffer)
	for _, e := range anyEdits(r, sizeOf(c.text), buffer) {
		c.undo = append(c.undo, edit{e.where, e.came, e.went})
	}
	return c
}

// TestP12ManyCheckpoints opens checkpoints of all kinds and goes on from them.
func TestP12ManyCheckpoints(t *testing.T) {
	r := rand.New(rand.NewSource(13))
	for range 400 {
		c := anySaved(r, 20)
		b := loaded(t, r.Intn(300), r.Intn(6), 5000, 1, "abcdefghijklmnopqrstuvwxyz", 2, c.bytes())
		b.open(api.OK)
		for range 25 {
			b.anyCall(r)
		}
	}
}

// TestP12ManySpoiltCheckpoints has one number of a checkpoint be another, with
// a right check sum.
func TestP12ManySpoiltCheckpoints(t *testing.T) {
	r := rand.New(rand.NewSource(14))
	values := []int{0, 1, 2, 3, 5, 7, 19, 20, 21, 50, 51, 4096, 4097, 5000, 5001, 1 << 24, 1 << 31, 1<<32 - 1}
	spoilt := 0
	for range 3000 {
		body := anySaved(r, 20).body()
		at := 1 + 4*r.Intn(len(body)/4)
		body = body[:at] + u32(values[r.Intn(len(values))]) + body[at+4:]
		b := loaded(t, 100, 5, 5000, 1, "abcdefghijklmnopqrst", 2, sealed(body))
		want := b.model.mayOpen()
		b.open(want)
		if want == api.ErrSpoilt {
			spoilt++
		}
	}
	if spoilt < 500 || spoilt > 2900 {
		t.Errorf("%d of 3000 were spoilt: the test is too weak", spoilt)
	}
}
