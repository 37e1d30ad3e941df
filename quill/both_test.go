package quill_test

import (
	"fmt"
	"slices"
	"testing"

	"quill/api"
	"quill/quill"
)

// newStore is a store that may be.
func newStore(t *testing.T, most, depth, room int) *quill.Store {
	t.Helper()
	s, e := quill.New(most, depth, room)
	if s == nil || e != api.OK {
		t.Fatalf("New(%d, %d, %d) = %v, %d", most, depth, room, s != nil, e)
	}
	return s
}

// wants compares an answer.
func wants(t *testing.T, what string, got, want api.Errno) {
	t.Helper()
	if got != want {
		t.Fatalf("%s = %d, want %d", what, got, want)
	}
}

// both is a store and its model: each call goes to both, and behind it all that
// they tell of themselves is compared.
type both struct {
	t     *testing.T
	store *quill.Store
	model *model
}

// closed is a store that nobody opened yet.
func closed(t *testing.T, most, depth, room int) *both {
	t.Helper()
	b := &both{t, newStore(t, most, depth, room), newModel(most, depth, room)}
	b.same()
	return b
}

// opened is an open store with nothing in it.
func opened(t *testing.T, most, depth, room int) *both {
	t.Helper()
	b := closed(t, most, depth, room)
	b.open(api.OK)
	return b
}

// loaded is a store with files on its disk, the numbers and bytes of which are
// told one after the other; it is not open yet.
func loaded(t *testing.T, most, depth, room int, files ...any) *both {
	t.Helper()
	b := closed(t, most, depth, room)
	b.load(api.OK, filesOf(files...))
	return b
}

func filesOf(all ...any) []api.File {
	var list []api.File
	for i := 0; i+1 < len(all); i += 2 {
		list = append(list, api.File{Number: all[i].(int), Bytes: all[i+1].(string)})
	}
	return list
}

// check compares the answer of a call with the model's, and with what the test says.
func (b *both) check(what string, got, model, want api.Errno) {
	b.t.Helper()
	if got != model || got != want {
		b.t.Fatalf("%s = %d, the model's answer %d, want %d", what, got, model, want)
	}
	b.same()
}

func (b *both) open(want api.Errno) {
	b.t.Helper()
	b.check("Open", b.store.Open(), b.model.openUp(), want)
}

func (b *both) close(want api.Errno) {
	b.t.Helper()
	b.check("Close", b.store.Close(), b.model.close(), want)
}

func (b *both) reopen() {
	b.t.Helper()
	b.close(api.OK)
	b.open(api.OK)
}

func (b *both) load(want api.Errno, files []api.File) {
	b.t.Helper()
	b.check("Load", b.store.Load(files), b.model.load(files), want)
}

func (b *both) insert(want api.Errno, pos int, text string) {
	b.t.Helper()
	b.check("Insert", b.store.Insert(pos, text), b.model.change("I", pos, len(text), text), want)
}

func (b *both) delete(want api.Errno, pos, n int) {
	b.t.Helper()
	b.check("Delete", b.store.Delete(pos, n), b.model.change("D", pos, n, ""), want)
}

func (b *both) undo(want api.Errno) {
	b.t.Helper()
	b.check("Undo", b.store.Undo(), b.model.change("U", 0, 0, ""), want)
}

func (b *both) redo(want api.Errno) {
	b.t.Helper()
	b.check("Redo", b.store.Redo(), b.model.change("R", 0, 0, ""), want)
}

func (b *both) sync(want api.Errno) {
	b.t.Helper()
	b.check("Sync", b.store.Sync(), b.model.sync(), want)
}

func (b *both) checkpoint(want api.Errno) {
	b.t.Helper()
	b.check("Checkpoint", b.store.Checkpoint(), b.model.checkpoint(), want)
}

func (b *both) crash(want api.Errno, after, one, rest int) {
	b.t.Helper()
	b.check("Crash", b.store.Crash(after, one, rest), b.model.willCrash(after, one, rest), want)
}

func (b *both) refuse(want api.Errno, after int) {
	b.t.Helper()
	b.check("Refuse", b.store.Refuse(after), b.model.willRefuse(after), want)
}

// same compares the files, the text and Done.
func (b *both) same() {
	b.t.Helper()
	if got, want := b.store.Image(), b.model.image(); !slices.Equal(got, want) {
		b.t.Fatalf("the files are %s, want %s", short(got), short(want))
	}
	if !b.model.open {
		b.tellsNothing()
		return
	}
	b.tells(b.model.string(), b.model.done)
}

// tells compares all that an open store tells of its text.
func (b *both) tells(text string, done int) {
	b.t.Helper()
	n, e := b.store.Length()
	if n != len(text) || e != api.OK {
		b.t.Fatalf("Length = %d, %d, want %d", n, e, len(text))
	}
	if got, e := b.store.Read(0, len(text)); got != text || e != api.OK {
		b.t.Fatalf("the text is %q, %d, want %q", got, e, text)
	}
	if got, e := b.store.Done(); got != done || e != api.OK {
		b.t.Fatalf("Done = %d, %d, want %d", got, e, done)
	}
}

// tellsNothing looks that a closed store tells nothing.
func (b *both) tellsNothing() {
	b.t.Helper()
	if n, e := b.store.Length(); n != 0 || e != api.ErrClosed {
		b.t.Fatalf("closed: Length = %d, %d", n, e)
	}
	if text, e := b.store.Read(0, 0); text != "" || e != api.ErrClosed {
		b.t.Fatalf("closed: Read = %q, %d", text, e)
	}
	if n, e := b.store.Done(); n != 0 || e != api.ErrClosed {
		b.t.Fatalf("closed: Done = %d, %d", n, e)
	}
}

// is compares with what the test itself writes out.
func (b *both) is(text string, done int) {
	b.t.Helper()
	b.tells(text, done)
	b.same()
}

// has compares the files with those that the test itself writes out.
func (b *both) has(files ...any) {
	b.t.Helper()
	if got, want := b.store.Image(), filesOf(files...); !slices.Equal(got, want) {
		b.t.Fatalf("the files are %s, want %s", short(got), short(want))
	}
	b.same()
}

// undoes undoes as often as there are texts, each of which is the one behind
// it; then nothing more can be undone.
func (b *both) undoes(texts ...string) {
	b.t.Helper()
	for _, text := range texts {
		b.undo(api.OK)
		b.is(text, b.model.done)
	}
	b.undo(api.ErrNothing)
}

// redoes is undoes the other way round.
func (b *both) redoes(texts ...string) {
	b.t.Helper()
	for _, text := range texts {
		b.redo(api.OK)
		b.is(text, b.model.done)
	}
	b.redo(api.ErrNothing)
}

// call is a call of a store with its model, and how many appends and other steps it does.
type call struct {
	name    string
	appends int
	others  int
	make    func(b *both, want api.Errno)
}

// changes is calls one after the other: the first is OK in an empty store, each
// other one behind those ahead of it.
func changes() []call {
	return []call{
		{"Insert", 2, 0, func(b *both, want api.Errno) { b.insert(want, 0, "hello") }},
		{"Insert within", 2, 0, func(b *both, want api.Errno) { b.insert(want, 2, "XYZ") }},
		{"Delete", 1, 0, func(b *both, want api.Errno) { b.delete(want, 1, 5) }},
		{"Undo", 1, 0, func(b *both, want api.Errno) { b.undo(want) }},
		{"Sync", 0, 2, func(b *both, want api.Errno) { b.sync(want) }},
		{"Redo", 1, 0, func(b *both, want api.Errno) { b.redo(want) }},
		{"Checkpoint", 1, 4, func(b *both, want api.Errno) { b.checkpoint(want) }},
		{"Undo again", 1, 0, func(b *both, want api.Errno) { b.undo(want) }},
		{"Insert over it", 2, 0, func(b *both, want api.Errno) { b.insert(want, 8, "!") }},
		{"Sync again", 0, 2, func(b *both, want api.Errno) { b.sync(want) }},
		{"Checkpoint again", 1, 4, func(b *both, want api.Errno) { b.checkpoint(want) }},
		{"Checkpoint without a journal", 1, 3, func(b *both, want api.Errno) { b.checkpoint(want) }},
	}
}

// short tells files by their numbers, lengths and first bytes.
func short(files []api.File) string {
	out := ""
	for _, f := range files {
		out += fmt.Sprintf(" %d: %d bytes %.40q", f.Number, len(f.Bytes), f.Bytes)
	}
	return "[" + out + " ]"
}
