package tree

import (
	"letterbox/api"
	"letterbox/chars"
	"letterbox/header"
	"letterbox/params"
)

// maker makes the parts of a message, and counts them.
type maker struct {
	b     []byte
	count int
}

// entity is what some of the message's bytes are, with all below it.
func (m *maker) entity(s api.Span, depth int, inDigest bool) Part {
	fields, behind := header.Of(m.b, s)
	leaf := Part{
		Kind: Leaf,
		Head: api.Span{From: s.From, To: behind},
		Body: api.Span{From: behind, To: s.To},
	}
	if depth == api.MaxDepth {
		return leaf
	}
	kind := m.typeOf(fields, inDigest)
	p := m.parted(leaf, fields, kind)
	kids := kidsOf(p)
	if len(kids) == 0 || m.count+len(kids) > api.MaxParts {
		return leaf
	}
	// All kids count ahead of what stands below the first of them.
	m.count += len(kids)
	for _, kid := range kids {
		p.Kids = append(p.Kids, m.entity(kid, depth+1, isDigest(kind)))
	}
	return p
}

// typeOf is the type of an entity of some fields; where these tell none, one in a digest is a message, any other a text.
func (m *maker) typeOf(fields []header.Field, inDigest bool) params.Value {
	kind, is := params.Parse(header.Value(m.b, fields, "content-type"), true)
	switch {
	case is:
		return kind
	case inDigest:
		return params.Value{Type: "message", Sub: "rfc822"}
	default:
		return params.Value{Type: "text", Sub: "plain"}
	}
}

// parted is a leaf as its type would have it, without the kids; the leaf, if that is of no parts.
func (m *maker) parted(leaf Part, fields []header.Field, kind params.Value) Part {
	p := leaf
	switch {
	case kind.Type == "multipart":
		if boundary, is := boundaryOf(kind); is {
			p.Kind = Multi
			p.Cuts, p.End = delimiters(m.b, leaf.Body, boundary)
		}
	case kind.Type == "message" && kind.Sub == "rfc822":
		if m.isBare(fields) {
			p.Kind = Message
		}
	}
	return p
}

// isBare tells whether a body stands as it is, without an encoding that hides what is in it.
func (m *maker) isBare(fields []header.Field) bool {
	// Nothing: the field isn't there, or has no value, which tells no more.
	switch chars.Fold(header.Value(m.b, fields, "content-transfer-encoding")) {
	case "", "7bit", "8bit", "binary":
		return true
	}
	return false
}

// isDigest tells whether parts that tell no type are messages.
func isDigest(kind params.Value) bool { return kind.Type == "multipart" && kind.Sub == "digest" }

// kidsOf are where the kids of a part stand.
func kidsOf(p Part) []api.Span {
	if p.Kind == Message {
		return []api.Span{p.Body}
	}
	var kids []api.Span
	for place, cut := range p.Cuts {
		next := p.End
		if place+1 < len(p.Cuts) {
			next = p.Cuts[place+1]
		}
		kids = append(kids, api.Span{From: cut.To, To: next.From})
	}
	return kids
}
