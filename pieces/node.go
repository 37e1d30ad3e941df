package pieces

import "quill/api"

// node is a piece between what lies ahead of it (left) and behind it (right).
// The heights of the two differ by one at most: so n nodes are never higher
// than about one and a half times the binary digits of n.
//
// A node never changes once it is made. A call makes new nodes along its way
// and shares the others, so a change that turns out not to be allowed needs
// nothing put back.
type node struct {
	left, right *node
	piece       api.Piece
	height      int
	count       int
	size        int
}

// A nil node is a tree of nothing; these three spare the others that case.

func (n *node) levels() int {
	if n == nil {
		return 0
	}
	return n.height
}

func (n *node) pieces() int {
	if n == nil {
		return 0
	}
	return n.count
}

func (n *node) bytes() int {
	if n == nil {
		return 0
	}
	return n.size
}

// above lays a node above two trees whose heights differ by one at most.
func above(left *node, p api.Piece, right *node) *node {
	return &node{
		left:   left,
		right:  right,
		piece:  p,
		height: 1 + max(left.levels(), right.levels()),
		count:  1 + left.pieces() + right.pieces(),
		size:   p.Len + left.bytes() + right.bytes(),
	}
}

// balanced is above for two trees whose heights differ by two at most.
func balanced(left *node, p api.Piece, right *node) *node {
	switch left.levels() - right.levels() {
	case 2:
		return turnRight(left, p, right)
	case -2:
		return turnLeft(left, p, right)
	}
	return above(left, p, right)
}

// turnRight is above where left is higher by two: left's root comes up or,
// where left's inner side is the higher one, the root of that side.
func turnRight(left *node, p api.Piece, right *node) *node {
	inner := left.right
	if left.left.levels() >= inner.levels() {
		return above(left.left, left.piece, above(inner, p, right))
	}
	return above(above(left.left, left.piece, inner.left), inner.piece, above(inner.right, p, right))
}

// turnLeft is turnRight the other way round.
func turnLeft(left *node, p api.Piece, right *node) *node {
	inner := right.left
	if right.right.levels() >= inner.levels() {
		return above(above(left, p, inner), right.piece, right.right)
	}
	return above(above(left, p, inner.left), inner.piece, above(inner.right, right.piece, right.right))
}

// join lays p between two trees of any heights. What it answers is higher by
// one at most than the higher of them; that is why balanced is enough here.
func join(left *node, p api.Piece, right *node) *node {
	switch d := left.levels() - right.levels(); {
	case d > 1:
		return balanced(left.left, left.piece, join(left.right, p, right))
	case d < -1:
		return balanced(join(left, p, right.left), right.piece, right.right)
	}
	return above(left, p, right)
}

// concat lays right behind left.
func concat(left, right *node) *node {
	if right == nil {
		return left
	}
	p, rest := takeFirst(right)
	return join(left, p, rest)
}

// takeFirst tells the first piece of n, which has one, and what is behind it.
func takeFirst(n *node) (api.Piece, *node) {
	if n.left == nil {
		return n.piece, n.right
	}
	p, rest := takeFirst(n.left)
	return p, join(rest, n.piece, n.right)
}

// split parts n ahead of byte number pos; a piece around that place becomes two.
func split(n *node, pos int) (*node, *node) {
	if pos <= 0 {
		return nil, n
	}
	if pos >= n.bytes() {
		return n, nil
	}
	start := n.left.bytes()
	end := start + n.piece.Len
	switch {
	case pos <= start:
		ahead, behind := split(n.left, pos)
		return ahead, join(behind, n.piece, n.right)
	case pos >= end:
		ahead, behind := split(n.right, pos-end)
		return join(n.left, n.piece, ahead), behind
	}
	first, second := cut(n.piece, pos-start)
	return join(n.left, first, nil), join(nil, second, n.right)
}

// cut parts p behind its first n bytes.
func cut(p api.Piece, n int) (api.Piece, api.Piece) {
	return api.Piece{Off: p.Off, Len: n}, api.Piece{Off: p.Off + n, Len: p.Len - n}
}

// restFrom tells the piece around byte number pos, which there is, from that byte on.
func restFrom(n *node, pos int) api.Piece {
	for {
		start := n.left.bytes()
		end := start + n.piece.Len
		switch {
		case pos < start:
			n = n.left
		case pos >= end:
			n, pos = n.right, pos-end
		default:
			_, rest := cut(n.piece, pos-start)
			return rest
		}
	}
}

// list tells the pieces of n in their order, in new memory.
func list(n *node) []api.Piece {
	return appendPieces(make([]api.Piece, 0, n.pieces()), n)
}

func appendPieces(out []api.Piece, n *node) []api.Piece {
	if n == nil {
		return out
	}
	out = appendPieces(out, n.left)
	out = append(out, n.piece)
	return appendPieces(out, n.right)
}
