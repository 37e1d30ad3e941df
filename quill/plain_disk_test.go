package quill_test

import (
	"cmp"
	"slices"

	"quill/api"
)

// plainDisk is what a disk should be: maps of the bytes, and of how many of
// them are flushed.
type plainDisk struct {
	room      int
	files     map[int]string
	flushed   map[int]int
	refuse    int // so many appends ahead of the one that is refused; none is, if below 0
	crash     int // so many steps ahead of the crash; there is none, if below 0
	one, rest int
}

func newPlainDisk(room int) *plainDisk {
	return &plainDisk{room: room, files: map[int]string{}, flushed: map[int]int{}, refuse: -1, crash: -1}
}

// step is one thing that a disk does.
type step struct {
	what   string
	number int
	bytes  string // of an append
	length int    // to which a file is cut
	to     int    // the number to which a file is moved
}

// run does steps one after the other, up to one that is refused, or to a crash.
func (d *plainDisk) run(steps []step) api.Errno {
	for _, s := range steps {
		if s.what == "append" {
			due := d.refuse == 0
			room := d.used()+len(s.bytes) <= d.room
			if due || room {
				d.refuse = max(d.refuse-1, -1)
			}
			if due || !room {
				return api.ErrNoSpace
			}
		}
		d.crash--
		if d.crash == -1 {
			d.stop()
			return api.ErrCrashed
		}
		d.crash = max(d.crash, -1)
		d.do(s)
	}
	return api.OK
}

func (d *plainDisk) used() int {
	sum := 0
	for _, bytes := range d.files {
		sum += len(bytes)
	}
	return sum
}

func (d *plainDisk) do(s step) {
	switch s.what {
	case "append":
		d.files[s.number] += s.bytes
	case "flush":
		d.flushed[s.number] = len(d.files[s.number])
	case "cut":
		d.files[s.number] = d.files[s.number][:s.length]
		d.flushed[s.number] = s.length
	case "move":
		d.files[s.to], d.flushed[s.to] = d.files[s.number], d.flushed[s.number]
		delete(d.files, s.number)
		delete(d.flushed, s.number)
	case "remove":
		delete(d.files, s.number)
		delete(d.flushed, s.number)
	}
}

// stop loses what was not flushed, byte by byte.
func (d *plainDisk) stop() {
	left := map[int]string{}
	for number, bytes := range d.files {
		stays := d.rest
		if number == 1 {
			stays = d.one
		}
		for i := range len(bytes) {
			if i < d.flushed[number] || i-d.flushed[number] < stays {
				left[number] += bytes[i : i+1]
			}
		}
	}
	d.files = left
	d.flushAll()
}

func (d *plainDisk) flushAll() {
	d.flushed = map[int]int{}
	for number, bytes := range d.files {
		d.flushed[number] = len(bytes)
	}
}

func (d *plainDisk) load(files []api.File) api.Errno {
	sum := 0
	for i, f := range files {
		sum += len(f.Bytes)
		if f.Number < 0 || f.Bytes == "" || i > 0 && f.Number <= files[i-1].Number {
			return api.ErrArg
		}
	}
	if len(files) > 40 || sum > d.room {
		return api.ErrArg
	}
	d.files = map[int]string{}
	for _, f := range files {
		d.files[f.Number] = f.Bytes
	}
	d.flushAll()
	return api.OK
}

func (d *plainDisk) image() []api.File {
	var out []api.File
	for number, bytes := range d.files {
		out = append(out, api.File{Number: number, Bytes: bytes})
	}
	slices.SortFunc(out, func(a, b api.File) int { return cmp.Compare(a.Number, b.Number) })
	return out
}

// there is the step, if there is such a file.
func (d *plainDisk) there(s step) []step {
	if d.files[s.number] == "" {
		return nil
	}
	return []step{s}
}

// shorten is the step by which a file gets so long, if it is longer.
func (d *plainDisk) shorten(number, n int) []step {
	switch {
	case len(d.files[number]) <= n:
		return nil
	case n == 0:
		return []step{{what: "remove", number: number}}
	}
	return []step{{what: "cut", number: number, length: n}}
}
