// Package disk: the disk of a store, with its files and its steps: see DOC.md, 'Words' and P9 to P11.
package disk

import (
	"cmp"
	"slices"

	"quill/api"
)

// Disk is files, in the order of their numbers, and what was asked to go wrong.
type Disk struct {
	room    int
	files   []*file
	refusal plan
	crash   crash
}

type file struct {
	number  int
	bytes   []byte
	flushed int // so many of the bytes would outlive a crash
}

// New makes a disk without files that has room for so many bytes.
func New(room int) *Disk { return &Disk{room: room} }

// find tells where the file of that number is or would be, and whether it is there.
func (d *Disk) find(number int) (int, bool) {
	return slices.BinarySearchFunc(d.files, number, func(f *file, number int) int {
		return cmp.Compare(f.number, number)
	})
}

// Bytes tells the bytes of a file, none if it is not there. They are the disk's
// own: the caller changes nothing in them, and reads them ahead of the next step.
func (d *Disk) Bytes(number int) []byte {
	if i, there := d.find(number); there {
		return d.files[i].bytes
	}
	return nil
}

// Length tells how many bytes a file has; 0, if it is not there.
func (d *Disk) Length(number int) int { return len(d.Bytes(number)) }

// Numbers tells the numbers of all files, in their order.
func (d *Disk) Numbers() []int {
	numbers := make([]int, 0, len(d.files))
	for _, f := range d.files {
		numbers = append(numbers, f.number)
	}
	return numbers
}

// Image tells all files, in memory of its own.
func (d *Disk) Image() []api.File {
	image := make([]api.File, 0, len(d.files))
	for _, f := range d.files {
		image = append(image, api.File{Number: f.number, Bytes: string(f.bytes)})
	}
	return image
}

// MayLoad tells whether the disk could have these files.
func (d *Disk) MayLoad(files []api.File) bool {
	if len(files) > api.MaxFiles {
		return false
	}
	last, left := -1, d.room
	for _, f := range files {
		n := len(f.Bytes)
		if f.Number <= last || n == 0 || n > left {
			return false
		}
		last, left = f.Number, left-n
	}
	return true
}

// Load lays these files on the disk, in place of all that are there.
func (d *Disk) Load(files []api.File) {
	d.files = nil
	for _, f := range files {
		d.files = append(d.files, &file{number: f.Number, bytes: []byte(f.Bytes), flushed: len(f.Bytes)})
	}
}

// used tells how many bytes all files have together.
func (d *Disk) used() int {
	sum := 0
	for _, f := range d.files {
		sum += len(f.bytes)
	}
	return sum
}
