// Package ledger: what a store has on its disk: the buffer, the checkpoint and the journal: see DOC.md, P7, P8 and P12.
package ledger

import (
	"errors"
	"strconv"
	"strings"

	"quill/api"
	"quill/disk"
	"quill/draft"
)

// The numbers of the files.
const (
	bufferFile     = 1
	checkpointFile = 2
	unfinishedFile = 3  // a checkpoint that is being written
	journalFile    = 10 // of the epoch 0
)

// Error says what the ledger was at.
type Error struct {
	At  string
	Err error
}

func (e *Error) Error() string { return e.At + ": " + e.Err.Error() }

func (e *Error) Unwrap() error { return e.Err }

// at wraps err, if there is one.
func at(where string, err error) error {
	if err == nil {
		return nil
	}
	return &Error{where, err}
}

// ErrExhausted is a checkpoint behind which there would be no epoch.
var ErrExhausted = errors.New("there is no further epoch")

// Ledger is the files of a disk in some epoch.
type Ledger struct {
	disk  *disk.Disk
	epoch int
}

func (l *Ledger) journal() int { return journalFile + l.epoch }

// Write writes a change down, the one of that number; text is what it inserts.
func (l *Ledger) Write(done int, c draft.Change, text string) error {
	where := "change " + strconv.Itoa(done)
	if text != "" {
		if err := l.disk.Append(bufferFile, []byte(text)); err != nil {
			return at(where, err)
		}
	}
	return at(where, l.disk.Append(l.journal(), record(done, c)))
}

// Sync makes all that was written outlive a crash. (Of a file that is not there
// the disk does no step.)
func (l *Ledger) Sync() error {
	for _, number := range []int{bufferFile, l.journal()} {
		if err := l.disk.Flush(number); err != nil {
			return at("sync", err)
		}
	}
	return nil
}

// Checkpoint writes down how all stands, in place of the journal, and goes to
// the next epoch.
func (l *Ledger) Checkpoint(state draft.State) error {
	const where = "checkpoint"
	if l.epoch >= api.MaxEpoch {
		return at(where, ErrExhausted)
	}
	for _, step := range l.stepsTo(checkpoint(l.epoch+1, state)) {
		if err := step(); err != nil {
			return at(where, err)
		}
	}
	l.epoch++
	return nil
}

// stepsTo is the steps by which a checkpoint takes the place of the one that is
// there, and of the journal. Up to the move all can still be read as it was;
// from there on the journal is one of an earlier epoch, and not asked any more.
func (l *Ledger) stepsTo(file []byte) [5]func() error {
	return [5]func() error{
		func() error { return l.disk.Flush(bufferFile) },
		func() error { return l.disk.Append(unfinishedFile, file) },
		func() error { return l.disk.Flush(unfinishedFile) },
		func() error { return l.disk.Move(unfinishedFile, checkpointFile) },
		func() error { return l.disk.Remove(l.journal()) },
	}
}

// Text tells the bytes of pieces of the buffer, one behind the other.
func (l *Ledger) Text(list []api.Piece) string {
	buffer := l.disk.Bytes(bufferFile)
	var text strings.Builder
	for _, p := range list {
		text.Write(buffer[p.Off : p.Off+p.Len])
	}
	return text.String()
}
