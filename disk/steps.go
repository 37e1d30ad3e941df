package disk

import (
	"errors"
	"slices"
	"strconv"
)

// ErrRefused is a step that the disk does not do, and that changes nothing.
var ErrRefused = errors.New("the disk refuses it")

// StepError says which step it was, and of which file.
type StepError struct {
	Step   string
	Number int
	Err    error
}

func (e *StepError) Error() string {
	return e.Step + " file " + strconv.Itoa(e.Number) + ": " + e.Err.Error()
}

func (e *StepError) Unwrap() error { return e.Err }

// Append lays bytes behind those of a file, which is made if it is not there.
func (d *Disk) Append(number int, bytes []byte) error {
	if len(bytes) > d.room-d.used() {
		return &StepError{"append to", number, ErrRefused}
	}
	i, there := d.find(number)
	if !there {
		d.files = slices.Insert(d.files, i, &file{number: number})
	}
	f := d.files[i]
	f.bytes = append(f.bytes, bytes...)
	return nil
}

// Flush makes all bytes of a file outlive a crash.
func (d *Disk) Flush(number int) error {
	if i, there := d.find(number); there {
		d.files[i].flushed = len(d.files[i].bytes)
	}
	return nil
}

// Cut leaves the first n bytes of a file that has more, and flushes them with that.
func (d *Disk) Cut(number int, n int) error {
	if i, there := d.find(number); there {
		f := d.files[i]
		f.bytes, f.flushed = slices.Clone(f.bytes[:n]), n
	}
	return nil
}

// Remove takes a file away.
func (d *Disk) Remove(number int) error {
	if i, there := d.find(number); there {
		d.files = slices.Delete(d.files, i, i+1)
	}
	return nil
}
