package ledger

import (
	"quill/draft"
	"quill/wire"
)

// recordSize is two letters, Done, three numbers and the check sum.
const recordSize = 2 + wire.Size + 3*wire.Size + wire.Size

// record is what the journal has of a change, the one of that number.
func record(done int, c draft.Change) []byte {
	b := wire.Append([]byte{'J', c.Letter}, uint32(done))
	for _, n := range c.Numbers {
		b = wire.Append(b, uint32(n))
	}
	return wire.Seal(b)
}

// readRecord tells of which change the first bytes of b are the record, and
// its number; not ok, if they are none.
func readRecord(b []byte) (done int, c draft.Change, ok bool) {
	if len(b) < recordSize {
		return 0, draft.Change{}, false
	}
	b, ok = wire.Unseal(b[:recordSize])
	if !ok || b[0] != 'J' {
		return 0, draft.Change{}, false
	}
	c.Letter, b = b[1], b[2:]
	done, b = int(wire.Number(b)), b[wire.Size:]
	for i := range c.Numbers {
		c.Numbers[i] = int(wire.Number(b[i*wire.Size:]))
	}
	return done, c, true
}
