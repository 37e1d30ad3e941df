package disk_test

import (
	"errors"
	"slices"
	"testing"

	"quill/api"
	"quill/disk"
)

// has compares the files, numbers and bytes.
func has(t *testing.T, d *disk.Disk, want ...api.File) {
	t.Helper()
	if got := d.Image(); !slices.Equal(got, want) {
		t.Fatalf("the files are %v, want %v", got, want)
	}
}

// does looks that a step went well.
func does(t *testing.T, err error) {
	t.Helper()
	if err != nil {
		t.Fatal(err)
	}
}

func TestP9AppendIsRefusedWithoutRoom(t *testing.T) {
	d := disk.New(5)
	does(t, d.Append(7, []byte("abc")))
	err := d.Append(1, []byte("xyz"))
	if !errors.Is(err, disk.ErrRefused) {
		t.Fatalf("Append = %v, want a refusal", err)
	}
	var step *disk.StepError
	if !errors.As(err, &step) || step.Number != 1 {
		t.Errorf("the refusal %v does not say of which file", err)
	}
	has(t, d, api.File{Number: 7, Bytes: "abc"})
	does(t, d.Append(1, []byte("xy")))
	has(t, d, api.File{Number: 1, Bytes: "xy"}, api.File{Number: 7, Bytes: "abc"})
}

func TestP12StepsLeaveRoom(t *testing.T) {
	d := disk.New(6)
	does(t, d.Append(1, []byte("abcd")))
	does(t, d.Append(2, []byte("ef")))
	does(t, d.Cut(1, 1))
	does(t, d.Append(3, []byte("ghi")))
	has(t, d, api.File{Number: 1, Bytes: "a"}, api.File{Number: 2, Bytes: "ef"}, api.File{Number: 3, Bytes: "ghi"})
	does(t, d.Remove(2))
	does(t, d.Append(1, []byte("jk")))
	does(t, d.Flush(1))
	has(t, d, api.File{Number: 1, Bytes: "ajk"}, api.File{Number: 3, Bytes: "ghi"})
}

// TestP12StepsOfNoFile do nothing, and count as none.
func TestP12StepsOfNoFile(t *testing.T) {
	d := disk.New(6)
	d.Crash(0, 0, 0)
	does(t, d.Flush(1))
	does(t, d.Cut(1, 1))
	does(t, d.Move(1, 2))
	does(t, d.Remove(1))
	has(t, d)
	stops(t, d.Append(1, []byte("a")), "append to", 1)
}

// stops looks that the machine stopped ahead of that step of that file.
func stops(t *testing.T, err error, name string, number int) {
	t.Helper()
	var step *disk.StepError
	if !errors.Is(err, disk.ErrStopped) || errors.Is(err, disk.ErrRefused) || !errors.As(err, &step) {
		t.Fatalf("the error is %v, want that the machine stopped", err)
	}
	if step.Step != name || step.Number != number {
		t.Errorf("the error %q says not that it was: %s %d", err, name, number)
	}
}

// TestP10EachStep: the machine stops ahead of every kind of step, and then no more.
func TestP10EachStep(t *testing.T) {
	for name, step := range map[string]func(d *disk.Disk) error{
		"append to": func(d *disk.Disk) error { return d.Append(7, []byte("xyz")) },
		"flush":     func(d *disk.Disk) error { return d.Flush(7) },
		"cut":       func(d *disk.Disk) error { return d.Cut(7, 1) },
		"move":      func(d *disk.Disk) error { return d.Move(7, 2) },
		"remove":    func(d *disk.Disk) error { return d.Remove(7) },
	} {
		d := disk.New(100)
		does(t, d.Append(1, []byte("abcd")))
		does(t, d.Append(7, []byte("ef")))
		does(t, d.Flush(7))
		does(t, d.Append(7, []byte("ghij")))
		d.Crash(0, 2, 3)
		stops(t, step(d), name, 7)
		has(t, d, api.File{Number: 1, Bytes: "ab"}, api.File{Number: 7, Bytes: "efghi"})
		does(t, step(d))
		d.Crash(0, 0, 0)
		stops(t, d.Flush(1), "flush", 1)
	}
}

// TestP10OneAndRest: file 1 alone is the one, and 10 or 11 are none of it.
func TestP10OneAndRest(t *testing.T) {
	d := disk.New(100)
	for _, number := range []int{0, 1, 2, 3, 10, 11} {
		does(t, d.Append(number, []byte("abc")))
	}
	d.Crash(0, 0, 2)
	stops(t, d.Remove(0), "remove", 0)
	ab := func(number int) api.File { return api.File{Number: number, Bytes: "ab"} }
	has(t, d, ab(0), ab(2), ab(3), ab(10), ab(11))
}

// TestP9RefuseOfAnAppendAlone: other steps are done, and not counted.
func TestP9RefuseOfAnAppendAlone(t *testing.T) {
	d := disk.New(100)
	d.Refuse(1)
	does(t, d.Append(1, []byte("abc")))
	does(t, d.Flush(1))
	does(t, d.Cut(1, 2))
	if err := d.Append(1, []byte("d")); !errors.Is(err, disk.ErrRefused) || errors.Is(err, disk.ErrStopped) {
		t.Fatalf("Append = %v, want a refusal", err)
	}
	has(t, d, api.File{Number: 1, Bytes: "ab"})
	does(t, d.Append(1, []byte("d")))
	does(t, d.Remove(1))
	has(t, d)
}

// TestP8MoveTakesThePlace of what was there, if there was something, and its
// own is free.
func TestP8MoveTakesThePlace(t *testing.T) {
	d := disk.New(12)
	for _, number := range []int{1, 3, 5, 7} {
		does(t, d.Append(number, []byte("abc")))
	}
	does(t, d.Cut(5, 2))
	does(t, d.Move(5, 3))
	has(t, d, api.File{Number: 1, Bytes: "abc"}, api.File{Number: 3, Bytes: "ab"}, api.File{Number: 7, Bytes: "abc"})
	does(t, d.Move(3, 9))
	does(t, d.Move(7, 0))
	has(t, d, api.File{Number: 0, Bytes: "abc"}, api.File{Number: 1, Bytes: "abc"}, api.File{Number: 9, Bytes: "ab"})
	does(t, d.Move(1, 1))
	does(t, d.Move(5, 1)) // there is no such file
	has(t, d, api.File{Number: 0, Bytes: "abc"}, api.File{Number: 1, Bytes: "abc"}, api.File{Number: 9, Bytes: "ab"})
	if err := d.Append(5, []byte("abcde")); !errors.Is(err, disk.ErrRefused) {
		t.Errorf("Append = %v, want a refusal", err)
	}
	does(t, d.Append(5, []byte("abcd"))) // as much as the move left
}

// TestP10WhatIsMovedStaysAsFlushed as it was, whatever was there; and the move lasts.
func TestP10WhatIsMovedStaysAsFlushed(t *testing.T) {
	for flushed := range 4 {
		for _, there := range []int{0, 1, 4, 9} {
			d := disk.New(100)
			if there > 0 {
				does(t, d.Append(2, []byte("123456789")[:there]))
				does(t, d.Flush(2))
			}
			if flushed > 0 {
				does(t, d.Append(3, []byte("abc")[:flushed]))
				does(t, d.Flush(3))
			}
			does(t, d.Append(3, []byte("abcdef")[flushed:]))
			does(t, d.Move(3, 2))
			d.Crash(0, 0, 1)
			stops(t, d.Move(2, 3), "move", 2)
			has(t, d, api.File{Number: 2, Bytes: "abcdef"[:flushed+1]})
		}
	}
}

// TestP10OneIsOfTheNumber that a file has when the machine stops.
func TestP10OneIsOfTheNumber(t *testing.T) {
	d := disk.New(100)
	does(t, d.Append(1, []byte("abcdef")))
	does(t, d.Append(3, []byte("ghijkl")))
	does(t, d.Move(1, 2))
	does(t, d.Move(3, 1))
	d.Crash(0, 2, 4)
	stops(t, d.Flush(1), "flush", 1)
	has(t, d, api.File{Number: 1, Bytes: "gh"}, api.File{Number: 2, Bytes: "abcd"})
}
