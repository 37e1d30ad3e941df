package draft

import "quill/api"

// Edit is what a change did to the text: where, what went and what came there.
type Edit struct {
	Where int
	Went  []api.Piece
	Came  []api.Piece
}

// Turned is the edit that takes e back.
func (e Edit) Turned() Edit { return Edit{Where: e.Where, Went: e.Came, Came: e.Went} }

// Turned tells the edits that take these back, each in its place.
func Turned(edits []Edit) []Edit {
	out := make([]Edit, 0, len(edits))
	for _, e := range edits {
		out = append(out, e.Turned())
	}
	return out
}

// Bytes tells how many bytes pieces have together.
func Bytes(list []api.Piece) int {
	sum := 0
	for _, p := range list {
		sum += p.Len
	}
	return sum
}

// Fit tells whether edits can be done one after the other, the first to a text
// of so many bytes: each finds as many bytes as it takes away, and leaves a
// text that is not too long.
func Fit(length int, edits []Edit) bool {
	for _, e := range edits {
		went := Bytes(e.Went)
		if e.Where < 0 || e.Where > length-went {
			return false
		}
		length += Bytes(e.Came) - went
		if length > api.MaxLength {
			return false
		}
	}
	return true
}

// pushed is the edits with e ahead of them; of more than depth the last is forgotten.
func pushed(e Edit, edits []Edit, depth int) []Edit {
	return first(append([]Edit{e}, edits...), depth)
}

// first is the edits that are nearest, depth of them at most.
func first(edits []Edit, depth int) []Edit { return edits[:min(len(edits), depth)] }
