// Package pieces: a balanced tree of pieces: see DOC.md, P3 and P4.
package pieces

import "quill/api"

// Tree is pieces in an order.
type Tree struct {
	root *node
}

// New makes a tree without pieces.
func New() *Tree { return &Tree{} }

// Insert lays a piece in.
func (t *Tree) Insert(pos int, p api.Piece) api.Errno {
	if pos < 0 || pos > t.Size() {
		return api.ErrPos
	}
	if !mayStand(p) {
		return api.ErrArg
	}
	ahead, behind := split(t.root, pos)
	return t.become(join(ahead, p, behind))
}

// Delete takes bytes out, and tells what went.
func (t *Tree) Delete(pos int, n int) ([]api.Piece, api.Errno) {
	size := t.Size()
	// pos + n could wrap round; size - pos can't.
	if n < 0 || pos < 0 || pos > size || n > size-pos {
		return nil, api.ErrPos
	}
	// Going on would split a piece out of which nothing goes.
	if n == 0 {
		return nil, api.OK
	}
	ahead, rest := split(t.root, pos)
	gone, behind := split(rest, n)
	if e := t.become(concat(ahead, behind)); e != api.OK {
		return nil, e
	}
	return list(gone), api.OK
}

// Find tells the rest of the piece in which a byte lies.
func (t *Tree) Find(pos int) (api.Piece, api.Errno) {
	if pos < 0 || pos >= t.Size() {
		return api.Piece{}, api.ErrPos
	}
	return restFrom(t.root, pos), api.OK
}

// Pieces tells all pieces.
func (t *Tree) Pieces() []api.Piece { return list(t.root) }

// Size tells how many bytes there are.
func (t *Tree) Size() int { return t.root.bytes() }

// Height tells how many nodes lie above one another at most.
func (t *Tree) Height() int { return t.root.levels() }

// become takes root in place of what the tree was. Nodes don't change, so a
// root that holds too many pieces is just dropped, and nothing has happened.
func (t *Tree) become(root *node) api.Errno {
	if root.pieces() > api.MaxPieces {
		return api.ErrFull
	}
	t.root = root
	return api.OK
}

func mayStand(p api.Piece) bool {
	return p.Len >= 1 && p.Len <= api.MaxLength && p.Off >= 0 && p.Off <= api.MaxOffset
}
