package quill_test

import (
	"math"
	"math/rand"
	"strings"
	"testing"

	"quill/api"
	"quill/quill"
)

// numbers is numbers of all kinds, the least and the greatest among them.
func numbers() []int {
	return []int{
		math.MinInt, math.MinInt + 1, math.MinInt32 - 1, math.MinInt32, -5001, -2, -1, 0, 1, 2, 3, 4, 5, 6, 9, 10, 11,
		50, 51, 199, 200, 201, 999, 4095, 4096, 4097, 4999, 5000, 5001, 1000000, 1000001, math.MaxInt32,
		math.MaxInt32 + 1, math.MaxUint32, math.MaxUint32 + 1, 1 << 62, math.MaxInt - 1, math.MaxInt,
	}
}

// texts is texts of all lengths that matter.
func texts() []string {
	return []string{
		"", "a", "\x00", "\xff\xfe", "é", "hello", strings.Repeat("a", 199), strings.Repeat("b", 200),
		strings.Repeat("c", 201), strings.Repeat("d", 5000), strings.Repeat("e", 5001), strings.Repeat("f", 1000001),
	}
}

// TestP1New calls New with numbers of all kinds.
func TestP1New(t *testing.T) {
	for _, most := range numbers() {
		for _, depth := range numbers() {
			for _, room := range numbers() {
				s, e := quill.New(most, depth, room)
				may := most >= 0 && most <= 5000 && depth >= 0 && depth <= 50 && room >= 0 && room <= 1000000
				if may != (e == api.OK) || may != (s != nil) || !may && e != api.ErrArg {
					t.Fatalf("New(%d, %d, %d) = %v, %d", most, depth, room, s != nil, e)
				}
			}
		}
	}
}

// places is stores of all kinds: closed, empty, with a text, behind a
// checkpoint, in the last epoch, read-only, spoilt.
func places(t *testing.T) map[string]*both {
	t.Helper()
	text := opened(t, 100, 5, 10000)
	text.insert(api.OK, 0, "hello")
	text.delete(api.OK, 1, 2)
	text.insert(api.OK, 1, "xyz")
	text.undo(api.OK)
	saved := opened(t, 100, 5, 10000)
	saved.insert(api.OK, 0, "hello")
	saved.delete(api.OK, 1, 2)
	saved.undo(api.OK)
	saved.checkpoint(api.OK)
	full := opened(t, 100, 5, 60)
	full.insert(api.OK, 0, "hello")
	full.delete(api.OK, 1, 2)
	full.insert(api.ErrNoSpace, 0, "and so on")
	spoilt := loaded(t, 100, 5, 100, 1, "abc", 2, "K")
	spoilt.open(api.ErrSpoilt)
	over := opened(t, 100, 5, 10000)
	over.insert(api.OK, 0, "hello")
	over.close(api.OK)
	return map[string]*both{
		"new": closed(t, 100, 5, 10000), "empty": opened(t, 100, 5, 10000), "least": opened(t, 0, 0, 0),
		"text": text, "read-only": full, "spoilt": spoilt, "closed again": over, "saved": saved, "last epoch": lastEpoch(t, 10000),
	}
}

// TestP1AllNumbers calls every call with numbers of all kinds, in stores of all
// kinds. The model says what each answers.
func TestP1AllNumbers(t *testing.T) {
	for name, b := range places(t) {
		t.Run(name, func(t *testing.T) {
			b.t = t
			for _, pos := range numbers() {
				for _, n := range numbers() {
					b.read(pos, n)
					b.checkDelete(pos, n)
				}
				for _, text := range texts() {
					b.checkInsert(pos, text)
				}
			}
			b.same()
		})
	}
}

// TestP1AllNumbersOfCrashAndRefuse asks for crashes and refusals of all kinds,
// in stores of all kinds, and then makes calls.
func TestP1AllNumbersOfCrashAndRefuse(t *testing.T) {
	for name, b := range places(t) {
		t.Run(name, func(t *testing.T) {
			b.t = t
			for _, after := range numbers() {
				b.agree("Refuse", b.model.willRefuse(after), b.store.Refuse(after))
				for _, one := range numbers() {
					for _, rest := range numbers() {
						b.agree("Crash", b.model.willCrash(after, one, rest), b.store.Crash(after, one, rest))
					}
				}
			}
			b.same()
			b.crash(api.OK, 2, math.MaxInt, math.MaxInt)
			b.refuse(api.OK, 3)
			r := rand.New(rand.NewSource(1))
			for range 100 {
				b.anyCall(r)
			}
		})
	}
}

// TestP1CrashesOfAllNumbers has each of them come, as far as it may.
func TestP1CrashesOfAllNumbers(t *testing.T) {
	for _, after := range []int{0, 1, 2, 3, 4, 5, 6, 7, math.MaxInt} {
		for _, one := range numbers() {
			for _, rest := range numbers() {
				b := opened(t, 100, 5, 1000)
				b.insert(api.OK, 0, "hello")
				b.agree("Crash", b.model.willCrash(after, one, rest), b.store.Crash(after, one, rest))
				for range 2 {
					b.agree("Delete", b.model.change("D", 0, 1, ""), b.store.Delete(0, 1))
					b.agree("Sync", b.model.sync(), b.store.Sync())
					b.agree("Checkpoint", b.model.checkpoint(), b.store.Checkpoint())
					b.agree("Open", b.model.openUp(), b.store.Open())
					b.same()
				}
			}
		}
	}
}

// TestP1RefusalsOfAllNumbers: the same of refusals.
func TestP1RefusalsOfAllNumbers(t *testing.T) {
	for _, after := range numbers() {
		b := opened(t, 5000, 5, 100000)
		b.agree("Refuse", b.model.willRefuse(after), b.store.Refuse(after))
		for i := range 60 {
			b.agree("Insert", b.model.change("I", i, 1, "a"), b.store.Insert(i, "a"))
		}
		b.same()
		b.reopen()
		b.insert(api.OK, 0, "b")
	}
}

// read compares Read with the model's text.
func (b *both) read(pos, n int) {
	b.t.Helper()
	want, text, e := "", "", api.OK
	if b.model.open {
		text = b.model.string()
	}
	switch {
	case !b.model.open:
		e = api.ErrClosed
	case pos < 0 || n < 0 || n > len(text) || pos > len(text)-n:
		e = api.ErrPos
	default:
		want = text[pos : pos+n]
	}
	if got, ge := b.store.Read(pos, n); got != want || ge != e {
		b.t.Fatalf("Read(%d, %d) = %q, %d, want %q, %d", pos, n, got, ge, want, e)
	}
}

// checkDelete compares with the model alone, and takes back what went.
func (b *both) checkDelete(pos, n int) {
	b.t.Helper()
	want := b.model.change("D", pos, n, "")
	if got := b.store.Delete(pos, n); got != want {
		b.t.Fatalf("Delete(%d, %d) = %d, want %d", pos, n, got, want)
	}
	if want == api.OK {
		b.undo(api.OK)
	}
}

func (b *both) checkInsert(pos int, text string) {
	b.t.Helper()
	want := b.model.change("I", pos, len(text), text)
	if got := b.store.Insert(pos, text); got != want {
		b.t.Fatalf("Insert(%d, %d bytes) = %d, want %d", pos, len(text), got, want)
	}
	if want == api.OK {
		b.undo(api.OK)
	}
}

// TestP1Lists loads lists of all kinds.
func TestP1Lists(t *testing.T) {
	b := closed(t, 100, 5, 1000)
	lists := [][]api.File{nil, {}, make([]api.File, 1), make([]api.File, 40), make([]api.File, 100000)}
	for _, number := range numbers() {
		for _, text := range texts() {
			one := api.File{Number: number, Bytes: text}
			lists = append(lists, []api.File{one}, []api.File{one, one}, []api.File{{Number: 1, Bytes: "x"}, one})
		}
	}
	for _, list := range lists {
		b.load(b.model.load(list), list)
		b.open(b.model.mayOpen())
		if b.model.open {
			b.close(api.OK)
		}
	}
}

// mayOpen is what Open would answer.
func (m *model) mayOpen() api.Errno {
	if _, ok := parse(m.files[2], len(m.files[1])); m.files[2] != "" && !ok {
		return api.ErrSpoilt
	}
	return api.OK
}

// TestP1FirstErrorIsTheAnswer has several errors apply at once.
func TestP1FirstErrorIsTheAnswer(t *testing.T) {
	all := places(t)
	for _, name := range []string{"new", "spoilt", "closed again"} {
		b := all[name]
		b.insert(api.ErrClosed, -1, "")
		b.delete(api.ErrClosed, -1, 0)
		b.undo(api.ErrClosed)
		b.redo(api.ErrClosed)
		b.sync(api.ErrClosed)
		b.checkpoint(api.ErrClosed)
		b.close(api.ErrClosed)
		b.read(-1, -1)
	}
	b := all["read-only"]
	b.insert(api.ErrReadOnly, -1, "")
	b.delete(api.ErrReadOnly, -1, 0)
	b.undo(api.ErrReadOnly)
	b.redo(api.ErrReadOnly)
	b.sync(api.ErrReadOnly)
	b.checkpoint(api.ErrReadOnly)
	b.open(api.ErrOpen)
	b.load(api.ErrOpen, make([]api.File, 41))
	b = all["text"] // 3 bytes of 100
	b.insert(api.ErrPos, 4, "")
	b.insert(api.ErrPos, -1, strings.Repeat("a", 201))
	b.insert(api.ErrText, 0, strings.Repeat("a", 201))
	b.insert(api.ErrLong, 0, strings.Repeat("a", 98))
	b = all["least"] // no room, and nothing may be in it
	b.insert(api.ErrPos, 1, "a")
	b.insert(api.ErrText, 0, "")
	b.insert(api.ErrLong, 0, "a")
	b.undo(api.ErrNothing)
	b.redo(api.ErrNothing)
	b.sync(api.OK)
	b = loaded(t, 100, 5, 100, 1, "abc", 2, "K")
	b.open(api.ErrSpoilt)
	b.load(api.ErrArg, filesOf(-1, ""))
	b = opened(t, 5, 5, 30) // where the disk would refuse and stop, and errors that stand ahead apply
	b.refuse(api.OK, 0)
	b.crash(api.OK, 0, 0, 0)
	b.insert(api.ErrPos, 1, "a")
	b.insert(api.ErrText, 0, "")
	b.insert(api.ErrLong, 0, "123456")
	b.delete(api.ErrPos, 0, 1)
	b.undo(api.ErrNothing)
	b.insert(api.ErrNoSpace, 0, "a")
	b.insert(api.ErrReadOnly, 1, "a")
	b.reopen()
	b.insert(api.ErrCrashed, 0, "a")
	b.insert(api.ErrClosed, 1, "a")
}

// TestP1NothingBesideAnError looks at the other results.
func TestP1NothingBesideAnError(t *testing.T) {
	b := opened(t, 100, 5, 1000)
	b.insert(api.OK, 0, "hello")
	for _, c := range [][2]int{{0, 6}, {-1, 1}, {6, 0}, {0, -1}, {3, 3}} {
		if text, e := b.store.Read(c[0], c[1]); text != "" || e != api.ErrPos {
			t.Errorf("Read(%d, %d) = %q, %d", c[0], c[1], text, e)
		}
	}
	b.close(api.OK)
	b.tellsNothing()
	if text, e := b.store.Read(0, 5); text != "" || e != api.ErrClosed {
		t.Errorf("Read of a closed store = %q, %d", text, e)
	}
}
