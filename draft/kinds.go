package draft

import (
	"strconv"

	"quill/api"
)

// The letters of the kinds of changes.
const (
	Insert = 'I'
	Delete = 'D'
	Undo   = 'U'
	Redo   = 'R'
)

// Change is a change as its record tells it: of an Insert the numbers are where,
// the place of the text in the buffer and its length; of a Delete where, how
// many bytes and 0; of the others 0.
type Change struct {
	Letter  byte
	Numbers [3]int
}

// Denied is a change that may not be, and why.
type Denied struct {
	Letter byte
	Errno  api.Errno
}

func (d *Denied) Error() string {
	return "change " + string(d.Letter) + ": error " + strconv.Itoa(int(d.Errno))
}

// kind is a kind of changes: may looks whether one may be to a text that may
// have `most` bytes, do does it.
type kind struct {
	letter byte
	may    func(d *Draft, c Change, most int) api.Errno
	do     func(d *Draft, c Change)
}

func kinds() [4]kind {
	return [4]kind{
		{Insert, mayInsert, doInsert},
		{Delete, mayDelete, doDelete},
		{Undo, mayUndo, doUndo},
		{Redo, mayRedo, doRedo},
	}
}

// Change makes a change, whether it is called or told by the journal: it looks
// whether it may be, has it written down and, if that went well, does it.
func (d *Draft) Change(c Change, most int, write func() error) error {
	for _, k := range kinds() {
		if k.letter != c.Letter {
			continue
		}
		if e := k.may(d, c, most); e != api.OK {
			return &Denied{c.Letter, e}
		}
		if err := write(); err != nil {
			return err
		}
		k.do(d, c)
		d.done++
		return nil
	}
	return &Denied{c.Letter, api.ErrArg}
}

func mayInsert(d *Draft, c Change, most int) api.Errno {
	pos, place, n := c.Numbers[0], c.Numbers[1], c.Numbers[2]
	switch {
	case !d.has(pos, 0):
		return api.ErrPos
	case n < 1 || n > api.MaxText:
		return api.ErrText
	case d.Length()+n > most:
		return api.ErrLong
	case place != d.buffered:
		return api.ErrArg // the journal alone can tell another place
	case !d.roomFor(insertion(c)):
		return api.ErrFull
	}
	return api.OK
}

func doInsert(d *Draft, c Change) {
	e := insertion(c)
	d.apply(e)
	d.buffered += Bytes(e.Came)
	d.remember(e)
}

func insertion(c Change) Edit {
	return Edit{Where: c.Numbers[0], Came: []api.Piece{{Off: c.Numbers[1], Len: c.Numbers[2]}}}
}

func mayDelete(d *Draft, c Change, _ int) api.Errno {
	pos, n, none := c.Numbers[0], c.Numbers[1], c.Numbers[2]
	switch {
	case n < 1 || !d.has(pos, n):
		return api.ErrPos
	case none != 0:
		return api.ErrArg // the journal alone can tell another number
	case !d.roomFor(deletion(c)):
		return api.ErrFull
	}
	return api.OK
}

func doDelete(d *Draft, c Change) {
	e := deletion(c)
	e.Went = d.apply(e)
	d.remember(e)
}

// deletion is an edit by which as many bytes go; which ones, the tree will tell.
func deletion(c Change) Edit {
	return Edit{Where: c.Numbers[0], Went: []api.Piece{{Len: c.Numbers[1]}}}
}

// remember keeps an edit that was called for: nothing can be done again behind it.
func (d *Draft) remember(e Edit) {
	d.undo = pushed(e, d.undo, d.depth)
	d.redo = nil
}

func mayUndo(d *Draft, c Change, _ int) api.Errno {
	if len(d.undo) == 0 {
		return api.ErrNothing
	}
	return d.mayTurn(c, d.undo[0].Turned())
}

func doUndo(d *Draft, _ Change) {
	e := d.undo[0]
	d.undo = d.undo[1:]
	d.apply(e.Turned())
	d.redo = pushed(e, d.redo, d.depth)
}

func mayRedo(d *Draft, c Change, _ int) api.Errno {
	if len(d.redo) == 0 {
		return api.ErrNothing
	}
	return d.mayTurn(c, d.redo[0])
}

func doRedo(d *Draft, _ Change) {
	e := d.redo[0]
	d.redo = d.redo[1:]
	d.apply(e)
	d.undo = pushed(e, d.undo, d.depth)
}

// mayTurn looks whether an edit that is kept may be done, back or again.
func (d *Draft) mayTurn(c Change, e Edit) api.Errno {
	switch {
	case c.Numbers != [3]int{}:
		return api.ErrArg // the journal alone can tell others
	case !d.roomFor(e):
		return api.ErrFull
	}
	return api.OK
}
