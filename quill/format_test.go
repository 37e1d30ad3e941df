package quill_test

import (
	"hash/crc32"

	"quill/api"
)

// The files of the disk, written out by the tests themselves.

// u32 is a number in four bytes, the greatest first.
func u32(n int) string {
	return string([]byte{byte(n >> 24), byte(n >> 16), byte(n >> 8), byte(n)})
}

// sealed is bytes with their check sum behind them.
func sealed(s string) string { return s + u32(int(crc32.ChecksumIEEE([]byte(s)))) }

// record is what the journal has of a change: Done and three numbers.
func record(letter string, done, a, b, c int) string {
	return sealed("J" + letter + u32(done) + u32(a) + u32(b) + u32(c))
}

// edit is where, what went and what came.
type edit struct {
	where      int
	went, came []api.Piece
}

// of is pieces, offset and length one after the other.
func of(numbers ...int) []api.Piece {
	var out []api.Piece
	for i := 0; i+1 < len(numbers); i += 2 {
		out = append(out, api.Piece{Off: numbers[i], Len: numbers[i+1]})
	}
	return out
}

// ones is so many pieces of one byte each, all of them the first of the buffer.
func ones(count int) []api.Piece {
	out := make([]api.Piece, count)
	for i := range out {
		out[i].Len = 1
	}
	return out
}

func sizeOf(list []api.Piece) int {
	size := 0
	for _, p := range list {
		size += p.Len
	}
	return size
}

// saved is what a checkpoint has. Of the edits the first that would be undone
// (done again) stands ahead.
type saved struct {
	epoch, done, buffered int
	text                  []api.Piece
	undo, redo            []edit
}

// body is the bytes of a checkpoint ahead of its check sum.
func (c saved) body() string {
	return "K" + u32(c.epoch) + u32(c.done) + u32(c.buffered) + piecesOf(c.text) + editsOf(c.undo) + editsOf(c.redo)
}

func (c saved) bytes() string { return sealed(c.body()) }

func piecesOf(list []api.Piece) string {
	b := []byte(u32(len(list)))
	for _, p := range list {
		b = append(b, u32(p.Off)+u32(p.Len)...)
	}
	return string(b)
}

func editsOf(list []edit) string {
	s := u32(len(list))
	for _, e := range list {
		s += u32(e.where) + piecesOf(e.went) + piecesOf(e.came)
	}
	return s
}
