package disk

import (
	"slices"
	"strconv"
)

// StepError says which step it was, and of which file.
type StepError struct {
	Step   string
	Number int
	Err    error
}

func (e *StepError) Error() string {
	return e.Step + " file " + strconv.Itoa(e.Number) + ": " + e.Err.Error()
}

func (e *StepError) Unwrap() error { return e.Err }

// Append lays bytes behind those of a file, which is made if it is not there.
func (d *Disk) Append(number int, bytes []byte) error {
	const name = "append to"
	// A refused append is no step, so the machine does not stop ahead of it.
	if d.refuses(len(bytes)) {
		return &StepError{name, number, ErrRefused}
	}
	return d.step(name, number, func() {
		i, there := d.find(number)
		if !there {
			d.files = slices.Insert(d.files, i, &file{number: number})
		}
		f := d.files[i]
		f.bytes = append(f.bytes, bytes...)
	})
}

// Flush makes all bytes of a file outlive a crash.
func (d *Disk) Flush(number int) error {
	return d.stepOf("flush", number, func(i int) { d.files[i].flush() })
}

// Cut leaves the first n bytes of a file that has more, and flushes them with that.
func (d *Disk) Cut(number int, n int) error {
	return d.stepOf("cut", number, func(i int) { d.files[i].cut(n) })
}

// Move gives a file another number, in place of what was there. It stays as
// flushed as it was.
func (d *Disk) Move(number int, to int) error {
	return d.stepOf("move", number, func(i int) {
		f := d.files[i]
		d.files = slices.Delete(d.files, i, i+1)
		f.number = to
		j, there := d.find(to)
		if there {
			d.files[j] = f
			return
		}
		d.files = slices.Insert(d.files, j, f)
	})
}

// Remove takes a file away.
func (d *Disk) Remove(number int) error {
	return d.stepOf("remove", number, func(i int) { d.files = slices.Delete(d.files, i, i+1) })
}

// stepOf does a step of a file that must be there: of none there is no step.
func (d *Disk) stepOf(name string, number int, do func(i int)) error {
	i, there := d.find(number)
	if !there {
		return nil
	}
	return d.step(name, number, func() { do(i) })
}

func (f *file) flush() { f.flushed = len(f.bytes) }

func (f *file) cut(n int) {
	f.bytes = slices.Clone(f.bytes[:n])
	f.flush()
}
