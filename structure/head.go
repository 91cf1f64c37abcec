package structure

import (
	"letterbox/header"
	"letterbox/params"
	"letterbox/tree"
	"letterbox/wire"
)

// head is what a part's header tells.
type head struct {
	b      []byte
	fields []header.Field
}

// headOf is a part's.
func headOf(b []byte, p tree.Part) head {
	fields, _ := header.Of(b, p.Head)
	return head{b: b, fields: fields}
}

// value is that of the first field of a name; nothing, if there is none.
func (h head) value(name string) string { return header.Value(h.b, h.fields, name) }

// field is that as IMAP tells it: a field without a value is there, too.
func (h head) field(name string) string {
	_, is := header.Find(h.fields, name)
	return wire.NString(h.value(name), is)
}

// rest is what all parts end with, where all is told.
func (h head) rest() string {
	return spaced(h.disposition(), h.field("content-language"), h.field("content-location"))
}

// disposition is how a part is to be shown, with its parameters.
func (h head) disposition() string {
	v, is := params.Parse(h.value("content-disposition"), false)
	if !is {
		return none
	}
	return row(wire.String(v.Type), pairs(v.Params))
}
