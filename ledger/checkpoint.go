package ledger

import (
	"errors"

	"quill/api"
	"quill/draft"
	"quill/wire"
)

// ErrSpoilt is a file 2 that is no checkpoint.
var ErrSpoilt = errors.New("file 2 is no checkpoint")

// checkpoint is the bytes of a checkpoint that begins an epoch with that state.
func checkpoint(epoch int, state draft.State) []byte {
	b := []byte{'K'}
	for _, n := range []int{epoch, state.Done, state.Buffered} {
		b = appendNumber(b, n)
	}
	b = appendPieces(b, state.Text)
	b = appendEdits(b, state.Undo)
	b = appendEdits(b, state.Redo)
	return wire.Seal(b)
}

func appendNumber(b []byte, n int) []byte { return wire.Append(b, uint32(n)) }

func appendPieces(b []byte, list []api.Piece) []byte {
	b = appendNumber(b, len(list))
	for _, p := range list {
		b = appendNumber(b, p.Off)
		b = appendNumber(b, p.Len)
	}
	return b
}

func appendEdits(b []byte, list []draft.Edit) []byte {
	b = appendNumber(b, len(list))
	for _, e := range list {
		b = appendNumber(b, e.Where)
		b = appendPieces(b, e.Went)
		b = appendPieces(b, e.Came)
	}
	return b
}

// readCheckpoint tells the epoch and the state that a checkpoint has, beside a
// buffer of so many bytes.
func readCheckpoint(b []byte, buffer int) (int, draft.State, error) {
	body, ok := wire.Unseal(b)
	if !ok {
		return 0, draft.State{}, at("its crc", ErrSpoilt)
	}
	r := &reading{rest: body}
	r.letter('K')
	epoch := r.number("its epoch", 1, api.MaxEpoch)
	done := r.number("its Done", 0, api.MaxDone)
	r.buffered = r.number("its length of the buffer", 0, buffer)
	state := draft.State{
		Done:     done,
		Buffered: r.buffered,
		Text:     r.pieces(),
		Undo:     r.edits(),
		Redo:     r.edits(),
	}
	r.ask("its end", len(r.rest) == 0)
	length := draft.Bytes(state.Text)
	r.ask("its edits that can be undone", draft.Fit(length, draft.Turned(state.Undo)))
	r.ask("its edits that can be done again", draft.Fit(length, state.Redo))
	if r.err != nil {
		return 0, draft.State{}, r.err
	}
	return epoch, state, nil
}

// reading takes what a checkpoint has off its bytes. Behind the first thing
// that is wrong, err, all numbers are 0 and all lists empty.
type reading struct {
	rest     []byte
	buffered int // no piece reaches further
	err      error
}

// ask is wrong there, unless it is right.
func (r *reading) ask(where string, right bool) {
	if r.err == nil && !right {
		r.err = at(where, ErrSpoilt)
	}
}

func (r *reading) letter(letter byte) {
	r.ask("its letter", len(r.rest) > 0 && r.rest[0] == letter)
	if r.err == nil {
		r.rest = r.rest[1:]
	}
}

func (r *reading) number(where string, least int, most int) int {
	r.ask(where, len(r.rest) >= wire.Size)
	if r.err != nil {
		return 0
	}
	n := int(wire.Number(r.rest))
	r.rest = r.rest[wire.Size:]
	if n < least || n > most {
		r.ask(where, false)
		return 0
	}
	return n
}

func (r *reading) pieces() []api.Piece {
	var list []api.Piece
	for range r.number("how many pieces", 0, api.MaxPieces) {
		off := r.number("an offset", 0, r.buffered)
		n := r.number("a length", 1, api.MaxLength)
		r.ask("the end of a piece", off+n <= r.buffered)
		if r.err != nil {
			return nil
		}
		list = append(list, api.Piece{Off: off, Len: n})
	}
	r.ask("the bytes of pieces", draft.Bytes(list) <= api.MaxLength)
	return list
}

func (r *reading) edits() []draft.Edit {
	var list []draft.Edit
	for range r.number("how many edits", 0, api.MaxDepth) {
		e := draft.Edit{
			Where: r.number("where an edit is", 0, api.MaxLength),
			Went:  r.pieces(),
			Came:  r.pieces(),
		}
		if r.err != nil {
			return nil
		}
		list = append(list, e)
	}
	return list
}
