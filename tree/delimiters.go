package tree

import (
	"bytes"
	"slices"

	"letterbox/api"
	"letterbox/chars"
	"letterbox/lines"
	"letterbox/params"
)

const (
	// dashes stand ahead of a boundary, and behind that of a close delimiter.
	dashes = "--"

	mostBoundary = 70
)

// Kinds of lines of a body.
const (
	other   = iota // no delimiter
	opening        // a delimiter that isn't a close one
	closing        // a close delimiter
)

// boundaryOf is the boundary that a type tells; false: there is none.
func boundaryOf(kind params.Value) (string, bool) {
	boundary, _ := params.Get(kind, "boundary")
	if boundary == "" || len(boundary) > mostBoundary {
		return "", false
	}
	return boundary, true
}

// delimiters are those of a body up to the first close one, and that; without one it is the body's end.
func delimiters(b []byte, body api.Span, boundary string) ([]api.Span, api.Span) {
	var cuts []api.Span
	mark := []byte(dashes + boundary)
	// A delimiter takes the end of the line ahead along, but for one that is a delimiter's already.
	from := body.From
	for _, l := range lines.Of(b, body) {
		at := api.Span{From: from, To: l.Next}
		switch lineKind(b[l.From:l.To], mark) {
		case closing:
			return cuts, at
		case opening:
			cuts = append(cuts, at)
			from = l.Next
		default:
			from = l.To
		}
	}
	return cuts, api.Span{From: body.To, To: body.To}
}

// lineKind is the kind of a line's text, by what delimiters begin with.
func lineKind(text, mark []byte) int {
	left, is := bytes.CutPrefix(text, mark)
	left, closes := bytes.CutPrefix(left, []byte(dashes))
	seen := func(c byte) bool { return !chars.Blank(c) }
	switch {
	case !is || slices.ContainsFunc(left, seen):
		return other
	case closes:
		return closing
	default:
		return opening
	}
}
