package envelope

import (
	"strings"

	"letterbox/addr"
	"letterbox/wire"
)

// none is what stands where there is nothing.
const none = "NIL"

// Put is it as IMAP tells it.
func Put(e Envelope) string {
	told := []string{wire.NString(e.Date, e.Has[0]), wire.NString(e.Subject, e.Has[1])}
	for _, list := range e.Lists {
		told = append(told, List(list))
	}
	told = append(told, wire.NString(e.Reply, e.Has[2]), wire.NString(e.Id, e.Has[3]))
	return row(told...)
}

// List are addresses as IMAP tells them.
func List(l []addr.Address) string {
	if len(l) == 0 {
		return none
	}
	var told strings.Builder
	for _, a := range l {
		told.WriteString(address(a))
	}
	return "(" + told.String() + ")"
}

// address is one as IMAP tells it. What stands second is a way that nobody goes any more.
func address(a addr.Address) string {
	switch a.Kind {
	case addr.Box:
		return row(some(a.Name), none, wire.String(a.Local), some(a.Host))
	case addr.Begin:
		return row(none, none, wire.String(a.Name), none)
	}
	return row(none, none, none, none)
}

// some is a text as a string, or NIL, if it is empty.
func some(s string) string { return wire.NString(s, s != "") }

// row are parts in brackets, with a space between.
func row(parts ...string) string { return "(" + strings.Join(parts, " ") + ")" }
