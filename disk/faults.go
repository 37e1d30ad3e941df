package disk

import (
	"errors"
	"slices"
)

// ErrRefused is an append that the disk does not do, and that changes nothing.
var ErrRefused = errors.New("the disk refuses it")

// ErrStopped is a step ahead of which the machine stopped.
var ErrStopped = errors.New("the machine stops ahead of it")

// buffer is the file of which a crash may leave more or less than of the others.
const buffer = 1

// plan is what was asked to come behind so many others; at first nothing was.
type plan struct {
	asked bool
	left  int
}

// due tells whether the next one is the one that was asked for.
func (p *plan) due() bool { return p.asked && p.left == 0 }

// next counts one more, and tells whether it is the one that was asked for:
// with that the plan is over.
func (p *plan) next() bool {
	if p.due() {
		p.asked = false
		return true
	}
	if p.asked {
		p.left--
	}
	return false
}

// crash is a plan to stop, and how much stays of what was not flushed.
type crash struct {
	plan
	one  int
	rest int
}

// Refuse has the disk do so many appends more, and refuse the next one.
func (d *Disk) Refuse(after int) { d.refusal = plan{asked: true, left: after} }

// Crash has the machine stop behind so many steps more. Of what was not flushed
// then, the first bytes stay: so many of the buffer, and so many of any other file.
func (d *Disk) Crash(after int, one int, rest int) {
	d.crash = crash{plan{asked: true, left: after}, one, rest}
}

// refuses tells whether an append of n bytes is refused.
func (d *Disk) refuses(n int) bool {
	full := n > d.room-d.used()
	if full && !d.refusal.due() {
		return true // and counts as none of those that were to be done ahead
	}
	return d.refusal.next()
}

// step does a step of a file, unless the machine stops ahead of it.
func (d *Disk) step(name string, number int, do func()) error {
	if d.crash.next() {
		d.lose()
		return &StepError{name, number, ErrStopped}
	}
	do()
	return nil
}

// lose takes from each file what does not outlive the crash.
func (d *Disk) lose() {
	for _, f := range d.files {
		stays := d.crash.rest
		if f.number == buffer {
			stays = d.crash.one
		}
		// flushed + stays could wrap round; this sum can't.
		f.cut(f.flushed + min(stays, len(f.bytes)-f.flushed))
	}
	d.files = slices.DeleteFunc(d.files, func(f *file) bool { return len(f.bytes) == 0 })
}
