package ledger_test

import (
	"errors"
	"testing"

	"quill/api"
	"quill/disk"
	"quill/draft"
	"quill/ledger"
)

// TestP7ARefusalSaysWhere: each layer says where, and what lies at the bottom can be asked.
func TestP7ARefusalSaysWhere(t *testing.T) {
	d := disk.New(5)
	l, _, err := ledger.Open(d, 3)
	if err != nil {
		t.Fatal(err)
	}
	err = l.Write(1, draft.Change{Letter: draft.Insert, Numbers: [3]int{0, 0, 3}}, "abc")
	var at *ledger.Error
	var step *disk.StepError
	if !errors.As(err, &at) || !errors.As(err, &step) || !errors.Is(err, disk.ErrRefused) {
		t.Fatalf("Write = %v, want a refusal, wrapped twice", err)
	}
	if want := "change 1: append to file 10: the disk refuses it"; err.Error() != want {
		t.Errorf("the error is %q, want %q", err, want)
	}
	if errors.Is(err, ledger.ErrSpoilt) {
		t.Error("a refusal is no spoilt checkpoint")
	}
}

// TestP10ACrashSaysWhere: the same of a crash, in all that does steps.
func TestP10ACrashSaysWhere(t *testing.T) {
	d := disk.New(100)
	l, _, err := ledger.Open(d, 3)
	if err != nil {
		t.Fatal(err)
	}
	insert := draft.Change{Letter: draft.Insert, Numbers: [3]int{0, 0, 3}}
	for _, c := range []struct {
		after int
		do    func() error
		want  string
	}{
		{0, func() error { return l.Write(7, insert, "abc") }, "change 7: append to file 1: "},
		{1, func() error { return l.Write(7, insert, "abc") }, "change 7: append to file 10: "},
		{0, l.Sync, "sync: flush file 1: "},
		{1, l.Sync, "sync: flush file 10: "},
		{0, func() error { _, _, err := ledger.Open(d, 3); return err }, "open: remove file 0: "},
		{1, func() error { _, _, err := ledger.Open(d, 3); return err }, "open: remove file 10: "},
		{2, func() error { _, _, err := ledger.Open(d, 3); return err }, "open: remove file 1: "},
	} {
		d.Load([]api.File{{Number: 0, Bytes: "x"}, {Number: 1, Bytes: "y"}, {Number: 10, Bytes: "z"}})
		d.Crash(c.after, 0, 0)
		err := c.do()
		var at *ledger.Error
		var step *disk.StepError
		if !errors.As(err, &at) || !errors.As(err, &step) || !errors.Is(err, disk.ErrStopped) {
			t.Fatalf("%v, want that the machine stopped, wrapped twice", err)
		}
		if want := c.want + "the machine stops ahead of it"; err.Error() != want {
			t.Errorf("the error is %q, want %q", err, want)
		}
	}
}

// TestP12ASpoiltCheckpointSaysWhere has the check sum be wrong.
func TestP12ASpoiltCheckpointSaysWhere(t *testing.T) {
	d := disk.New(100)
	d.Load([]api.File{{Number: 2, Bytes: "Kabcdefgh"}})
	_, _, err := ledger.Open(d, 3)
	if !errors.Is(err, ledger.ErrSpoilt) || errors.Is(err, disk.ErrRefused) {
		t.Fatalf("Open = %v, want a spoilt checkpoint", err)
	}
	if want := "open: its crc: file 2 is no checkpoint"; err.Error() != want {
		t.Errorf("the error is %q, want %q", err, want)
	}
}
