package ledger_test

import (
	"errors"
	"testing"

	"quill/api"
	"quill/disk"
	"quill/draft"
	"quill/ledger"
)

// TestP7ARefusalSaysWhere: each layer says where, and what lies at the bottom can be asked.
func TestP7ARefusalSaysWhere(t *testing.T) {
	d := disk.New(5)
	l, _, err := ledger.Open(d, 3)
	if err != nil {
		t.Fatal(err)
	}
	err = l.Write(1, draft.Change{Letter: draft.Insert, Numbers: [3]int{0, 0, 3}}, "abc")
	var at *ledger.Error
	var step *disk.StepError
	if !errors.As(err, &at) || !errors.As(err, &step) || !errors.Is(err, disk.ErrRefused) {
		t.Fatalf("Write = %v, want a refusal, wrapped twice", err)
	}
	if want := "change 1: append to file 10: the disk refuses it"; err.Error() != want {
		t.Errorf("the error is %q, want %q", err, want)
	}
	if errors.Is(err, ledger.ErrSpoilt) {
		t.Error("a refusal is no spoilt checkpoint")
	}
}

// TestP10ACrashSaysWhere: the same of a crash, in all that does steps.
func TestP10ACrashSaysWhere(t *testing.T) {
	d := disk.New(100)
	l, _, err := ledger.Open(d, 3)
	if err != nil {
		t.Fatal(err)
	}
	insert := draft.Change{Letter: draft.Insert, Numbers: [3]int{0, 0, 3}}
	for _, c := range []struct {
		after int
		do    func() error
		want  string
	}{
		{0, func() error { return l.Write(7, insert, "abc") }, "change 7: append to file 1: "},
		{1, func() error { return l.Write(7, insert, "abc") }, "change 7: append to file 10: "},
		{0, l.Sync, "sync: flush file 1: "},
		{1, l.Sync, "sync: flush file 10: "},
		{0, func() error { _, _, err := ledger.Open(d, 3); return err }, "open: remove file 0: "},
		{1, func() error { _, _, err := ledger.Open(d, 3); return err }, "open: remove file 10: "},
		{2, func() error { _, _, err := ledger.Open(d, 3); return err }, "open: remove file 1: "},
	} {
		d.Load([]api.File{{Number: 0, Bytes: "x"}, {Number: 1, Bytes: "y"}, {Number: 10, Bytes: "z"}})
		d.Crash(c.after, 0, 0)
		err := c.do()
		var at *ledger.Error
		var step *disk.StepError
		if !errors.As(err, &at) || !errors.As(err, &step) || !errors.Is(err, disk.ErrStopped) {
			t.Fatalf("%v, want that the machine stopped, wrapped twice", err)
		}
		if want := c.want + "the machine stops ahead of it"; err.Error() != want {
			t.Errorf("the error is %q, want %q", err, want)
		}
	}
}

// TestP8ACheckpointSaysWhere: what went wrong with it, and at which step.
func TestP8ACheckpointSaysWhere(t *testing.T) {
	steps := []string{"flush file 1", "append to file 3", "flush file 3", "move file 3", "remove file 10"}
	for after, step := range steps {
		d, l := saving(t, 100)
		d.Crash(after, 0, 0)
		err := l.Checkpoint(draft.State{Done: 1, Buffered: 3})
		says(t, err, disk.ErrStopped, "checkpoint: "+step+": the machine stops ahead of it")
	}
	d, l := saving(t, 100)
	d.Refuse(0)
	says(t, l.Checkpoint(draft.State{}), disk.ErrRefused, "checkpoint: append to file 3: the disk refuses it")
	_, l = saving(t, 25+28)
	says(t, l.Checkpoint(draft.State{}), disk.ErrRefused, "checkpoint: append to file 3: the disk refuses it")
	_, l = saving(t, 25+29)
	if err := l.Checkpoint(draft.State{}); err != nil {
		t.Errorf("Checkpoint with just the room = %v", err)
	}
}

// saving is a disk with a buffer and a journal, and its ledger.
func saving(t *testing.T, room int) (*disk.Disk, *ledger.Ledger) {
	t.Helper()
	d := disk.New(room)
	l, _, err := ledger.Open(d, 3)
	if err != nil {
		t.Fatal(err)
	}
	if err := l.Write(1, draft.Change{Letter: draft.Insert, Numbers: [3]int{0, 0, 3}}, "abc"); err != nil {
		t.Fatal(err)
	}
	return d, l
}

// says looks that an error is this one, wrapped by both layers, and what it tells.
func says(t *testing.T, err error, is error, want string) {
	t.Helper()
	var at *ledger.Error
	var step *disk.StepError
	if !errors.As(err, &at) || !errors.As(err, &step) || !errors.Is(err, is) {
		t.Fatalf("the error is %v, want %v, wrapped twice", err, is)
	}
	if errors.Is(err, ledger.ErrExhausted) || err.Error() != want {
		t.Errorf("the error is %q, want %q", err, want)
	}
}

// TestP9ARefusedCheckpointLeavesTheEpoch: the journal is the same, and the next
// checkpoint that of the same epoch.
func TestP9ARefusedCheckpointLeavesTheEpoch(t *testing.T) {
	d, l := saving(t, 200)
	d.Refuse(0)
	says(t, l.Checkpoint(draft.State{}), disk.ErrRefused, "checkpoint: append to file 3: the disk refuses it")
	if err := l.Write(2, draft.Change{Letter: draft.Undo}, ""); err != nil {
		t.Fatal(err)
	}
	if n := d.Length(10); n != 44 || len(d.Image()) != 2 {
		t.Errorf("the journal has %d bytes, want 44, and there are %d files", n, len(d.Image()))
	}
	if err := l.Checkpoint(draft.State{}); err != nil {
		t.Fatal(err)
	}
	if got := string(d.Bytes(2)[:5]); got != "K\x00\x00\x00\x01" || len(d.Image()) != 2 {
		t.Errorf("the checkpoint begins with %q, and there are %d files", got, len(d.Image()))
	}
}

// TestP8TheLastEpochSaysSo: it is no error of the disk, which does no step.
func TestP8TheLastEpochSaysSo(t *testing.T) {
	d := disk.New(100)
	l, _, err := ledger.Open(d, 3)
	for range api.MaxEpoch {
		if err == nil {
			err = l.Checkpoint(draft.State{})
		}
	}
	if err != nil {
		t.Fatal(err)
	}
	d.Crash(0, 0, 0)
	err = l.Checkpoint(draft.State{})
	if !errors.Is(err, ledger.ErrExhausted) || errors.Is(err, disk.ErrStopped) || errors.Is(err, disk.ErrRefused) {
		t.Fatalf("Checkpoint = %v, want that there is no further epoch", err)
	}
	if want := "checkpoint: there is no further epoch"; err.Error() != want {
		t.Errorf("the error is %q, want %q", err, want)
	}
}

// TestP12ASpoiltCheckpointSaysWhere has the check sum be wrong.
func TestP12ASpoiltCheckpointSaysWhere(t *testing.T) {
	d := disk.New(100)
	d.Load([]api.File{{Number: 2, Bytes: "Kabcdefgh"}})
	_, _, err := ledger.Open(d, 3)
	if !errors.Is(err, ledger.ErrSpoilt) || errors.Is(err, disk.ErrRefused) {
		t.Fatalf("Open = %v, want a spoilt checkpoint", err)
	}
	if want := "open: its crc: file 2 is no checkpoint"; err.Error() != want {
		t.Errorf("the error is %q, want %q", err, want)
	}
}
