package disk_test

import (
	"errors"
	"slices"
	"testing"

	"quill/api"
	"quill/disk"
)

// has compares the files, numbers and bytes.
func has(t *testing.T, d *disk.Disk, want ...api.File) {
	t.Helper()
	if got := d.Image(); !slices.Equal(got, want) {
		t.Fatalf("the files are %v, want %v", got, want)
	}
}

// does looks that a step went well.
func does(t *testing.T, err error) {
	t.Helper()
	if err != nil {
		t.Fatal(err)
	}
}

func TestP9AppendIsRefusedWithoutRoom(t *testing.T) {
	d := disk.New(5)
	does(t, d.Append(7, []byte("abc")))
	err := d.Append(1, []byte("xyz"))
	if !errors.Is(err, disk.ErrRefused) {
		t.Fatalf("Append = %v, want a refusal", err)
	}
	var step *disk.StepError
	if !errors.As(err, &step) || step.Number != 1 {
		t.Errorf("the refusal %v does not say of which file", err)
	}
	has(t, d, api.File{Number: 7, Bytes: "abc"})
	does(t, d.Append(1, []byte("xy")))
	has(t, d, api.File{Number: 1, Bytes: "xy"}, api.File{Number: 7, Bytes: "abc"})
}

func TestP12StepsLeaveRoom(t *testing.T) {
	d := disk.New(6)
	does(t, d.Append(1, []byte("abcd")))
	does(t, d.Append(2, []byte("ef")))
	does(t, d.Cut(1, 1))
	does(t, d.Append(3, []byte("ghi")))
	has(t, d, api.File{Number: 1, Bytes: "a"}, api.File{Number: 2, Bytes: "ef"}, api.File{Number: 3, Bytes: "ghi"})
	does(t, d.Remove(2))
	does(t, d.Append(1, []byte("jk")))
	does(t, d.Flush(1))
	has(t, d, api.File{Number: 1, Bytes: "ajk"}, api.File{Number: 3, Bytes: "ghi"})
}

// TestP12StepsOfNoFile do nothing.
func TestP12StepsOfNoFile(t *testing.T) {
	d := disk.New(6)
	does(t, d.Flush(1))
	does(t, d.Cut(1, 1))
	does(t, d.Remove(1))
	has(t, d)
}
