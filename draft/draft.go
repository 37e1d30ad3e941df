// Package draft: the text as it stands, with the edits that can be undone and done again: see DOC.md, P6.
package draft

import (
	"quill/api"
	"quill/pieces"
)

// State is how a draft stands, and what one can begin with. Of the edits of
// each kind the one that would be undone, or done again, first stands ahead.
type State struct {
	Done     int
	Buffered int
	Text     []api.Piece
	Undo     []Edit
	Redo     []Edit
}

// Draft is a text with its edits.
type Draft struct {
	depth    int
	tree     *pieces.Tree
	count    int // of the tree's pieces, which the tree itself tells by a list alone
	undo     []Edit
	redo     []Edit
	done     int
	buffered int
}

// Restore makes a draft that stands as state says, whose edits fit; of those
// it forgets what goes beyond depth.
func Restore(depth int, state State) *Draft {
	d := &Draft{
		depth:    depth,
		tree:     pieces.New(),
		undo:     first(state.Undo, depth),
		redo:     first(state.Redo, depth),
		done:     state.Done,
		buffered: state.Buffered,
	}
	d.apply(Edit{Came: state.Text})
	return d
}

// State tells how the draft stands. The edits are the draft's own: the caller
// changes nothing in them, and reads them ahead of the next change.
func (d *Draft) State() State {
	return State{Done: d.done, Buffered: d.buffered, Text: d.tree.Pieces(), Undo: d.undo, Redo: d.redo}
}

// Length tells how many bytes the text has.
func (d *Draft) Length() int { return d.tree.Size() }

// Done tells how many changes there were.
func (d *Draft) Done() int { return d.done }

// Buffered tells how many bytes of the buffer the changes so far speak of.
func (d *Draft) Buffered() int { return d.buffered }

// Part tells the n bytes of the text from pos on, as pieces.
func (d *Draft) Part(pos int, n int) ([]api.Piece, api.Errno) {
	if n < 0 || !d.has(pos, n) {
		return nil, api.ErrPos
	}
	var part []api.Piece
	for n > 0 {
		p, _ := d.tree.Find(pos)
		p.Len = min(p.Len, n)
		part = append(part, p)
		pos, n = pos+p.Len, n-p.Len
	}
	return part, api.OK
}

// has tells whether there are n bytes from pos on; n is not below 0.
func (d *Draft) has(pos int, n int) bool {
	// pos + n could wrap round; length - n can't.
	return pos >= 0 && pos <= d.Length()-n
}

// apply does what an edit says, and tells what went. The tree refuses none of
// it where roomFor held ahead: what lies in between has no more pieces than the end.
func (d *Draft) apply(e Edit) []api.Piece {
	d.count = d.countBehind(e)
	gone, _ := d.tree.Delete(e.Where, Bytes(e.Went))
	pos := e.Where
	for _, p := range e.Came {
		d.tree.Insert(pos, p)
		pos += p.Len
	}
	return gone
}

// roomFor tells whether the text may have as many pieces as it would have behind e.
func (d *Draft) roomFor(e Edit) bool { return d.countBehind(e) <= api.MaxPieces }

// countBehind tells how many pieces the text would have behind e. It is asked
// ahead of e, since a tree that has split a piece can't join it again.
func (d *Draft) countBehind(e Edit) int {
	from, to := e.Where, e.Where+Bytes(e.Went)
	count := d.count + len(e.Came)
	if from == to {
		if len(e.Came) > 0 && d.within(from) {
			count++
		}
		return count
	}
	if d.within(from) {
		count++
	}
	if d.within(to) {
		count++
	}
	for pos := from; pos < to; count-- {
		p, _ := d.tree.Find(pos)
		pos += p.Len
	}
	return count
}

// within tells whether pos is neither at the beginning nor at the end of a piece.
func (d *Draft) within(pos int) bool {
	p, e := d.tree.Find(pos - 1)
	return e == api.OK && p.Len > 1
}
