package wire

import (
	"bytes"

	"letterbox/api"
)

// Kinds of events.
const (
	Go  = 1 // more is wanted
	Cmd = 2 // a command is whole
	Bad = 3 // one was too great
)

// Event is one: of a Cmd its bytes, without its end.
type Event struct {
	Kind  int
	Bytes []byte
}

// Framer cuts bytes into commands.
type Framer struct {
	wait []byte
	// Where the line under way begins, and how far it was looked through: both are behind all that waits, as long as a literal isn't whole.
	line, at int
	// How many bytes the lines of the command under way have, as far as they came.
	size int
}

// Feed takes bytes; what comes of them.
func (f *Framer) Feed(b []byte) []Event {
	if f == nil {
		return nil
	}
	f.wait = append(f.wait, b...)
	var all []Event
	for {
		event, is := f.next()
		if !is {
			return all
		}
		all = append(all, event)
	}
}

// Left is how many bytes wait.
func (f *Framer) Left() int {
	if f == nil {
		return 0
	}
	return len(f.wait)
}

// next is what comes next of the bytes that wait; false: nothing does.
func (f *Framer) next() (Event, bool) {
looking:
	for f.at < len(f.wait) {
		f.at++
		f.size++
		switch {
		case f.size > api.MaxLine:
			// Whatever ends this line, it is too long by now.
			return f.bad(), true
		case f.wait[f.at-1] != '\n':
			continue looking
		}
		h, is := lastHead(f.text())
		switch {
		case !is:
			return f.whole(), true
		case h.many > api.MaxMessage:
			return f.bad(), true
		}
		if f.pass(h) {
			return Event{Kind: Go}, true
		}
	}
	return Event{}, false
}

// text is that of the line that ends at the place.
func (f *Framer) text() []byte {
	end := f.at - 1
	return bytes.TrimSuffix(f.wait[f.line:end:end], []byte("\r"))
}

// whole is the command that ends at the place: it waits no more.
func (f *Framer) whole() Event {
	end := f.line + len(f.text())
	// What waits lies right behind the command: its third index keeps whoever makes it longer from writing there.
	event := Event{Kind: Cmd, Bytes: f.wait[:end:end]}
	*f = Framer{wait: f.wait[f.at:]}
	return event
}

// bad is told of a command that is too great: nothing waits any more.
func (f *Framer) bad() Event {
	*f = Framer{}
	return Event{Kind: Bad}
}

// pass goes on to the line behind the literal of the head at the place; true: its bytes are to be asked for.
func (f *Framer) pass(h head) bool {
	asked := !h.unasked && f.at == len(f.wait)
	f.at += h.many
	f.line = f.at
	return asked
}
