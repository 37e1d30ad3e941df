package quill_test

import (
	"math/rand"
	"slices"
	"testing"

	"quill/api"
)

// TestP2StoresBesideOneAnother mixes the calls of many stores.
func TestP2StoresBesideOneAnother(t *testing.T) {
	r := rand.New(rand.NewSource(2))
	var all []*both
	for i := range 12 {
		all = append(all, opened(t, 60+i, i%4, 400+50*i))
	}
	for range 3000 {
		all[r.Intn(len(all))].anyCall(r)
	}
	for range 6000 {
		b := all[r.Intn(len(all))]
		b.anyFault(r)
		b.anyCall(r)
	}
	for _, b := range all {
		b.same()
	}
}

// TestP2CrashAndRefuseOfOneStoreAlone: each store has its own.
func TestP2CrashAndRefuseOfOneStoreAlone(t *testing.T) {
	var all []*both
	for i := range 8 {
		b := opened(t, 100, 5, 1000)
		b.insert(api.OK, 0, "0123456789")
		if i%2 == 0 {
			b.refuse(api.OK, i)
		} else {
			b.crash(api.OK, i, i, i)
		}
		all = append(all, b)
	}
	for round := range 8 {
		for i, b := range all {
			switch {
			case round < i:
				b.delete(api.OK, 0, 1)
				b.insert(api.ErrPos, -1, "")
				if i%2 == 0 {
					b.sync(api.OK)
				}
			case round > i:
				b.insert(api.OK, 0, "more")
			case i%2 == 0:
				b.delete(api.ErrNoSpace, 0, 1)
				b.reopen()
			default:
				b.sync(api.ErrCrashed)
				b.has(1, "0123456789"[:i], 10, record("I", 1, 0, 0, 10)[:i])
				b.open(api.OK)
			}
		}
	}
}

// TestP2AnswersHangOnCallsAlone makes the same calls to two stores at different times.
func TestP2AnswersHangOnCallsAlone(t *testing.T) {
	first := opened(t, 80, 3, 3000)
	second := opened(t, 80, 3, 3000)
	r := rand.New(rand.NewSource(3))
	for range 400 {
		first.anyFault(r)
		first.anyCall(r)
	}
	r = rand.New(rand.NewSource(3))
	for range 400 {
		second.anyFault(r)
		second.anyCall(r)
	}
	if !slices.Equal(first.store.Image(), second.store.Image()) {
		t.Error("the same calls, and other files")
	}
}

// spoil writes over a list and over all the room that it has.
func spoil(list []api.File) {
	list = list[:cap(list)]
	for i := range list {
		list[i] = api.File{Number: -7, Bytes: "spoilt"}
	}
}

func TestP2ImageIsNewMemory(t *testing.T) {
	b := opened(t, 100, 5, 1000)
	spoil(b.store.Image())
	b.insert(api.OK, 0, "hello")
	first, second := b.store.Image(), b.store.Image()
	spoil(first)
	if !slices.Equal(second, b.model.image()) {
		t.Error("two images share memory")
	}
	b.same()
	spoil(second)
	b.insert(api.OK, 5, " you")
	b.same()
	b.reopen()
	b.is("hello you", 2)
	third := b.store.Image()
	before := slices.Clone(third)
	b.delete(api.OK, 0, 3)
	b.close(api.OK)
	b.load(api.OK, filesOf(4, "other"))
	if !slices.Equal(third, before) {
		t.Error("a call changed an image that was told ahead of it")
	}
}

// TestP2ImagesAppendedTo looks that spare room of one is not that of another.
func TestP2ImagesAppendedTo(t *testing.T) {
	b := opened(t, 100, 5, 1000)
	b.insert(api.OK, 0, "hello")
	first := b.store.Image()
	second := append(first[:1], api.File{Number: 5, Bytes: "mine"})
	b.insert(api.OK, 0, "x")
	if second[1] != (api.File{Number: 5, Bytes: "mine"}) {
		t.Error("a call wrote into an image")
	}
	b.same()
}

func TestP2LoadKeepsNoList(t *testing.T) {
	b := closed(t, 100, 5, 1000)
	list := filesOf(1, "hello", 7, "x", 10, record("I", 1, 0, 0, 5))
	b.load(api.OK, list)
	spoil(list)
	b.same()
	b.open(api.OK)
	b.is("hello", 1)
	b.insert(api.OK, 5, "!")
	for _, f := range list {
		if f.Number != -7 {
			t.Error("a call wrote into a list that was handed in")
		}
	}
}

// TestP2LoadChangesNoList looks at the list and at what lies around it.
func TestP2LoadChangesNoList(t *testing.T) {
	for _, files := range [][]api.File{
		filesOf(1, "hello", 10, "x"), filesOf(10, "x", 1, "hello"), filesOf(1, "", 2, "x"), filesOf(-1, "x"), nil,
	} {
		memory := append(filesOf(91, "ahead"), files...)
		memory = append(memory, filesOf(92, "behind", 93, "further")...)
		before := slices.Clone(memory)
		b := closed(t, 100, 5, 1000)
		list := memory[1 : 1+len(files)]
		b.load(b.model.load(list), list)
		b.open(api.OK)
		b.insert(api.OK, 0, "abc")
		b.close(api.OK)
		b.load(api.OK, nil)
		if !slices.Equal(memory, before) {
			t.Errorf("Load(%v) changed what lies in memory", files)
		}
	}
}

// TestP2ImageLoadsElsewhere takes the image of one store to another.
func TestP2ImageLoadsElsewhere(t *testing.T) {
	b := opened(t, 100, 5, 1000)
	b.insert(api.OK, 0, "hello")
	b.delete(api.OK, 1, 3)
	other := closed(t, 100, 5, 1000)
	other.load(api.OK, b.store.Image())
	other.open(api.OK)
	other.is("ho", 2)
	other.undoes("hello", "")
	b.is("ho", 2)
	b.insert(api.OK, 0, "x")
	b.is("xho", 3)
	other.is("", 4)
}
