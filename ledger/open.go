package ledger

import (
	"errors"

	"quill/api"
	"quill/disk"
	"quill/draft"
)

// errMissing is an Insert whose text the buffer does not have.
var errMissing = errors.New("the buffer has no such text")

// Open looks a disk through, and tidies it. It tells the draft that was found,
// with at most depth edits of either kind.
func Open(on *disk.Disk, depth int) (*Ledger, *draft.Draft, error) {
	l := &Ledger{disk: on}
	d, err := l.restore(depth)
	if err != nil {
		return nil, nil, at("open", err)
	}
	right := l.repeatAll(d)
	if err := l.tidy(right, d.Buffered()); err != nil {
		return nil, nil, at("open", err)
	}
	return l, d, nil
}

// restore tells the draft that the checkpoint has, and goes to its epoch;
// without a checkpoint all is empty.
func (l *Ledger) restore(depth int) (*draft.Draft, error) {
	file := l.disk.Bytes(checkpointFile)
	if len(file) == 0 {
		return draft.Restore(depth, draft.State{}), nil
	}
	epoch, state, err := readCheckpoint(file, l.disk.Length(bufferFile))
	if err != nil {
		return nil, err
	}
	l.epoch = epoch
	return draft.Restore(depth, state), nil
}

// repeatAll makes all changes of the journal, up to the first record that is
// not right, and tells how many bytes those that were right have.
func (l *Ledger) repeatAll(d *draft.Draft) int {
	journal := l.disk.Bytes(l.journal())
	right := 0
	for l.repeat(d, journal[right:]) {
		right += recordSize
	}
	return right
}

// repeat makes the change of which b begins with the record, if that is right.
func (l *Ledger) repeat(d *draft.Draft, b []byte) bool {
	done, c, ok := readRecord(b)
	if !ok || done != d.Done()+1 {
		return false
	}
	// What a call would write now must be there already.
	written := func() error {
		if c.Letter == draft.Insert && d.Buffered()+c.Numbers[2] > l.disk.Length(bufferFile) {
			return errMissing
		}
		return nil
	}
	return d.Change(c, api.MaxLength, written) == nil
}

// tidy takes away all that the draft does not need: other files, and what lies
// behind so many bytes of the journal and of the buffer.
func (l *Ledger) tidy(journal int, buffer int) error {
	for _, number := range l.disk.Numbers() {
		switch number {
		case bufferFile, checkpointFile, l.journal():
			continue
		}
		if err := l.disk.Remove(number); err != nil {
			return err
		}
	}
	if err := l.shorten(l.journal(), journal); err != nil {
		return err
	}
	return l.shorten(bufferFile, buffer)
}

// shorten leaves the first n bytes of a file; a file without bytes is not there.
func (l *Ledger) shorten(number int, n int) error {
	switch {
	case l.disk.Length(number) <= n:
		return nil
	case n == 0:
		return l.disk.Remove(number)
	}
	return l.disk.Cut(number, n)
}
