package fetch

import (
	"letterbox/api"
	"letterbox/header"
	"letterbox/lines"
	"letterbox/section"
	"letterbox/tree"
)

// whole are all bytes that a spec tells of a message, whatever is cut.
func whole(b []byte, p tree.Part, s section.Spec) []byte {
	if section.Check(s) != api.OK {
		return nil
	}
	if len(s.Path) == 0 {
		return ofMessage(b, p, s)
	}
	part, is := down(p, s.Path)
	if !is {
		return nil
	}
	return ofPart(b, part, s)
}

// ofPart are the bytes that a spec tells of a part within a message.
func ofPart(b []byte, p tree.Part, s section.Spec) []byte {
	switch {
	case s.What == section.All:
		return bytesOf(b, p.Body)
	case s.What == section.Mime:
		return bytesOf(b, p.Head)
	case p.Kind == tree.Message && len(p.Kids) > 0:
		return ofMessage(b, p.Kids[0], s)
	default:
		return nil
	}
}

// ofMessage are the bytes that a spec tells of a message.
func ofMessage(b []byte, m tree.Part, s section.Spec) []byte {
	span := m.Head
	switch s.What {
	case section.Fields, section.Not:
		fields, _ := header.Of(b, m.Head)
		return header.Some(b, fields, s.Names, s.What == section.Not)
	case section.Text:
		span.From = m.Body.From
		fallthrough
	case section.All:
		// All begins with the header, and ends where the text does.
		span.To = m.Body.To
	}
	return bytesOf(b, span)
}

// bytesOf are those of a part; none, if it doesn't stand within what is there.
func bytesOf(b []byte, s api.Span) []byte {
	if !lines.Within(s, len(b)) {
		return nil
	}
	return b[s.From:s.To]
}
