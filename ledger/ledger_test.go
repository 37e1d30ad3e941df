package ledger_test

import (
	"errors"
	"testing"

	"quill/api"
	"quill/disk"
	"quill/draft"
	"quill/ledger"
)

// TestP7ARefusalSaysWhere: each layer says where, and what lies at the bottom can be asked.
func TestP7ARefusalSaysWhere(t *testing.T) {
	d := disk.New(5)
	l, _, err := ledger.Open(d, 3)
	if err != nil {
		t.Fatal(err)
	}
	err = l.Write(1, draft.Change{Letter: draft.Insert, Numbers: [3]int{0, 0, 3}}, "abc")
	var at *ledger.Error
	var step *disk.StepError
	if !errors.As(err, &at) || !errors.As(err, &step) || !errors.Is(err, disk.ErrRefused) {
		t.Fatalf("Write = %v, want a refusal, wrapped twice", err)
	}
	if want := "change 1: append to file 10: the disk refuses it"; err.Error() != want {
		t.Errorf("the error is %q, want %q", err, want)
	}
	if errors.Is(err, ledger.ErrSpoilt) {
		t.Error("a refusal is no spoilt checkpoint")
	}
}

// TestP12ASpoiltCheckpointSaysWhere has the check sum be wrong.
func TestP12ASpoiltCheckpointSaysWhere(t *testing.T) {
	d := disk.New(100)
	d.Load([]api.File{{Number: 2, Bytes: "Kabcdefgh"}})
	_, _, err := ledger.Open(d, 3)
	if !errors.Is(err, ledger.ErrSpoilt) || errors.Is(err, disk.ErrRefused) {
		t.Fatalf("Open = %v, want a spoilt checkpoint", err)
	}
	if want := "open: its crc: file 2 is no checkpoint"; err.Error() != want {
		t.Errorf("the error is %q, want %q", err, want)
	}
}
