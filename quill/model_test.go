package quill_test

import (
	"slices"
	"strings"

	"quill/api"
)

// model is what a store should be, with plain lists and texts: no tree, no
// table, and a plain disk.
type model struct {
	*plainDisk
	most, depth           int
	open, readOnly        bool
	epoch, done, buffered int
	text                  []api.Piece
	undo, redo            []edit // the first one would be undone (done again) first
}

func newModel(most, depth, room int) *model {
	return &model{plainDisk: newPlainDisk(room), most: most, depth: depth}
}

// swapped is the list with n bytes from pos on replaced by other pieces, and what went.
func swapped(list []api.Piece, pos, n int, come []api.Piece) (all, gone []api.Piece) {
	if n == 0 && len(come) == 0 {
		return list, nil
	}
	var ahead, behind []api.Piece
	start := 0
	for _, p := range list {
		for _, part := range parts(p, pos-start, pos+n-start) {
			switch {
			case start < pos:
				ahead = append(ahead, part)
			case start < pos+n:
				gone = append(gone, part)
			default:
				behind = append(behind, part)
			}
			start += part.Len
		}
	}
	return slices.Concat(ahead, come, behind), gone
}

// parts is a piece cut at two places, as far as they lie within it.
func parts(p api.Piece, places ...int) []api.Piece {
	var out []api.Piece
	from := 0
	for _, to := range append(places, p.Len) {
		if to > from && to <= p.Len {
			out = append(out, api.Piece{Off: p.Off + from, Len: to - from})
			from = to
		}
	}
	return out
}

// string tells the whole text.
func (m *model) string() string {
	var out strings.Builder
	for _, p := range m.text {
		out.WriteString(m.files[1][p.Off : p.Off+p.Len])
	}
	return out.String()
}

func (m *model) mayWrite() api.Errno {
	switch {
	case !m.open:
		return api.ErrClosed
	case m.readOnly:
		return api.ErrReadOnly
	}
	return api.OK
}

// steps has the disk do these.
func (m *model) steps(all ...step) api.Errno {
	e := m.run(all)
	switch e {
	case api.ErrNoSpace:
		m.readOnly = true
	case api.ErrCrashed:
		m.open = false
	}
	return e
}

// would is the model as it will be behind a change, or why that may not be.
func (m *model) would(letter string, pos, n, most int) (*model, api.Errno) {
	next := *m
	next.done++
	size := sizeOf(m.text)
	switch letter {
	case "I":
		switch {
		case pos < 0 || pos > size:
			return nil, api.ErrPos
		case n < 1 || n > 200:
			return nil, api.ErrText
		case size+n > most:
			return nil, api.ErrLong
		}
		e := edit{where: pos, came: []api.Piece{{Off: m.buffered, Len: n}}}
		next.text, _ = swapped(m.text, pos, 0, e.came)
		next.buffered += n
		next.undo, next.redo = ahead(e, m.undo, m.depth), nil
	case "D":
		if pos < 0 || n < 1 || n > size || pos > size-n {
			return nil, api.ErrPos
		}
		e := edit{where: pos}
		next.text, e.went = swapped(m.text, pos, n, nil)
		next.undo, next.redo = ahead(e, m.undo, m.depth), nil
	case "U":
		if len(m.undo) == 0 {
			return nil, api.ErrNothing
		}
		e := m.undo[0]
		next.text, _ = swapped(m.text, e.where, sizeOf(e.came), e.went)
		next.undo, next.redo = m.undo[1:], ahead(e, m.redo, m.depth)
	case "R":
		if len(m.redo) == 0 {
			return nil, api.ErrNothing
		}
		e := m.redo[0]
		next.text, _ = swapped(m.text, e.where, sizeOf(e.went), e.came)
		next.undo, next.redo = ahead(e, m.undo, m.depth), m.redo[1:]
	}
	if len(next.text) > 4096 {
		return nil, api.ErrFull
	}
	return &next, api.OK
}

// ahead is the edits with e ahead of them, the furthest off forgotten.
func ahead(e edit, list []edit, depth int) []edit {
	out := append([]edit{e}, list...)
	return out[:min(len(out), depth)]
}

// change is a call that changes the text; n is how many bytes it is about.
func (m *model) change(letter string, pos, n int, text string) api.Errno {
	if e := m.mayWrite(); e != api.OK {
		return e
	}
	next, e := m.would(letter, pos, n, m.most)
	if e != api.OK {
		return e
	}
	var steps []step
	written := record(letter, next.done, 0, 0, 0)
	switch letter {
	case "I":
		steps = append(steps, step{what: "append", number: 1, bytes: text})
		written = record(letter, next.done, pos, len(m.files[1]), n)
	case "D":
		written = record(letter, next.done, pos, n, 0)
	}
	steps = append(steps, step{what: "append", number: 10 + m.epoch, bytes: written})
	if e := m.steps(steps...); e != api.OK {
		return e
	}
	*m = *next
	return api.OK
}

func (m *model) sync() api.Errno {
	if e := m.mayWrite(); e != api.OK {
		return e
	}
	journal := step{what: "flush", number: 10 + m.epoch}
	return m.steps(append(m.there(step{what: "flush", number: 1}), m.there(journal)...)...)
}

func (m *model) checkpoint() api.Errno {
	if e := m.mayWrite(); e != api.OK {
		return e
	}
	if m.epoch == 999 {
		return api.ErrExhausted
	}
	steps := m.there(step{what: "flush", number: 1})
	steps = append(steps, step{what: "append", number: 3, bytes: m.saved().bytes()},
		step{what: "flush", number: 3}, step{what: "move", number: 3, to: 2})
	steps = append(steps, m.there(step{what: "remove", number: 10 + m.epoch})...)
	e := m.steps(steps...)
	if e == api.OK {
		m.epoch++
	}
	return e
}

// saved is the checkpoint that the model would write.
func (m *model) saved() saved {
	return saved{m.epoch + 1, m.done, len(m.files[1]), m.text, m.undo, m.redo}
}

func (m *model) close() api.Errno {
	if !m.open {
		return api.ErrClosed
	}
	m.open = false
	return api.OK
}

func (m *model) willCrash(after, one, rest int) api.Errno {
	if after < 0 || one < 0 || rest < 0 {
		return api.ErrArg
	}
	m.crash, m.one, m.rest = after, one, rest
	return api.OK
}

func (m *model) willRefuse(after int) api.Errno {
	if after < 0 {
		return api.ErrArg
	}
	m.refuse = after
	return api.OK
}

func (m *model) load(files []api.File) api.Errno {
	if m.open {
		return api.ErrOpen
	}
	return m.plainDisk.load(files)
}

func (m *model) openUp() api.Errno {
	if m.open {
		return api.ErrOpen
	}
	m.epoch, m.done, m.buffered, m.text, m.undo, m.redo = 0, 0, 0, nil, nil, nil
	if file, there := m.files[2]; there {
		c, ok := parse(file, len(m.files[1]))
		if !ok {
			return api.ErrSpoilt
		}
		m.epoch, m.done, m.buffered, m.text = c.epoch, c.done, c.buffered, c.text
		m.undo = c.undo[:min(len(c.undo), m.depth)]
		m.redo = c.redo[:min(len(c.redo), m.depth)]
	}
	right := m.replay()
	var steps []step
	for _, f := range m.image() {
		if f.Number != 1 && f.Number != 2 && f.Number != 10+m.epoch {
			steps = append(steps, step{what: "remove", number: f.Number})
		}
	}
	steps = append(steps, m.shorten(10+m.epoch, right)...)
	steps = append(steps, m.shorten(1, m.buffered)...)
	e := m.steps(steps...)
	if e == api.OK {
		m.open, m.readOnly = true, false
	}
	return e
}

// replay makes the changes of the journal, and tells how many bytes of it were right.
func (m *model) replay() int {
	for right := 0; ; right += 22 {
		rest := m.files[10+m.epoch][right:]
		if len(rest) < 22 {
			return right
		}
		letter, a, b, c := rest[1:2], number(rest[6:]), number(rest[10:]), number(rest[14:])
		if !strings.Contains("IDUR", letter) || rest[:22] != record(letter, m.done+1, a, b, c) {
			return right
		}
		n := b
		switch letter {
		case "I":
			n = c
			if b != m.buffered || b+c > len(m.files[1]) {
				return right
			}
		case "D":
			if c != 0 {
				return right
			}
		default:
			if a != 0 || b != 0 || c != 0 {
				return right
			}
		}
		next, e := m.would(letter, a, n, 5000)
		if e != api.OK {
			return right
		}
		*m = *next
	}
}

// number is the first four bytes.
func number(s string) int {
	return int(s[0])<<24 | int(s[1])<<16 | int(s[2])<<8 | int(s[3])
}

// parse reads a checkpoint: it takes it for right, writes down what it read and
// looks whether that is the file; then it asks what P12 asks.
func parse(file string, buffer int) (c saved, ok bool) {
	rest := file[min(1, len(file)):]
	next := func() int {
		if len(rest) < 4 {
			rest = ""
			return 0
		}
		n := number(rest)
		rest = rest[4:]
		return n
	}
	pieces := func() []api.Piece {
		var list []api.Piece
		for range min(next(), len(file)) {
			off := next()
			list = append(list, api.Piece{Off: off, Len: next()})
		}
		return list
	}
	edits := func() []edit {
		var list []edit
		for range min(next(), 51) {
			e := edit{where: next()}
			e.went = pieces()
			e.came = pieces()
			list = append(list, e)
		}
		return list
	}
	c = saved{epoch: next(), done: next(), buffered: next()}
	c.text, c.undo, c.redo = pieces(), edits(), edits()
	return c, c.bytes() == file && c.right(buffer)
}

// right tells whether all is within its limits, and the edits fit.
func (c saved) right(buffer int) bool {
	lists := [][]api.Piece{c.text}
	for _, e := range slices.Concat(c.undo, c.redo) {
		lists = append(lists, e.went, e.came)
	}
	for _, l := range lists {
		for _, p := range l {
			if p.Len < 1 || p.Len > 5000 || p.Off+p.Len > c.buffered {
				return false
			}
		}
		if len(l) > 4096 || sizeOf(l) > 5000 {
			return false
		}
	}
	within := c.epoch >= 1 && c.epoch <= 999 && c.done <= 1000000000 && c.buffered <= buffer
	return within && len(c.undo) <= 50 && len(c.redo) <= 50 && c.fit()
}

func (c saved) fit() bool {
	size := sizeOf(c.text)
	for _, e := range c.undo {
		if e.where+sizeOf(e.came) > size {
			return false
		}
		if size += sizeOf(e.went) - sizeOf(e.came); size > 5000 {
			return false
		}
	}
	size = sizeOf(c.text)
	for _, e := range c.redo {
		if e.where+sizeOf(e.went) > size {
			return false
		}
		if size += sizeOf(e.came) - sizeOf(e.went); size > 5000 {
			return false
		}
	}
	return true
}
