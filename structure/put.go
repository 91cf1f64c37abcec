package structure

import (
	"strings"

	"letterbox/binary"
	"letterbox/chars"
	"letterbox/envelope"
	"letterbox/lines"
	"letterbox/params"
	"letterbox/tree"
	"letterbox/wire"
)

// none is what stands where there is nothing.
const none = "NIL"

// teller tells parts one behind the other, so that what stands deep is not put together anew at each depth.
type teller struct {
	b    []byte
	all  bool
	told strings.Builder
}

// add goes on with some texts.
func (t *teller) add(texts ...string) {
	for _, text := range texts {
		t.told.WriteString(text)
	}
}

// part tells a part, with all below it.
func (t *teller) part(p tree.Part) {
	t.add("(")
	if p.Kind == tree.Multi {
		t.multi(p)
	} else {
		t.one(p)
	}
	t.add(")")
}

// multi tells what stands in the brackets of a Multi.
func (t *teller) multi(p tree.Part) {
	for _, kid := range p.Kids {
		t.part(kid)
	}
	_, sub, parameters := Kind(t.b, p)
	t.add(" ", wire.String(sub))
	if t.all {
		t.add(" ", spaced(parameters, headOf(t.b, p).rest()))
	}
}

// one tells what stands in the brackets of all others.
func (t *teller) one(p tree.Part) {
	h := headOf(t.b, p)
	kind, sub, parameters := Kind(t.b, p)
	t.add(spaced(wire.String(kind), wire.String(sub), parameters))
	t.add(" ", spaced(h.field("content-id"), h.field("content-description")))
	t.add(" ", spaced(wire.String(binary.Encoding(t.b, p)), chars.Digits(p.Body.To-p.Body.From)))
	switch {
	case p.Kind == tree.Message && len(p.Kids) > 0:
		t.add(" ", envelope.Put(envelope.Of(t.b, p.Kids[0])), " ")
		t.part(p.Kids[0])
		fallthrough
	case kind == plainText:
		t.add(" ", chars.Digits(lines.Count(t.b, p.Body)))
	}
	if t.all {
		t.add(" ", spaced(h.field("content-md5"), h.rest()))
	}
}

// pairs are parameters, each by its name and its value.
func pairs(all []params.Param) string {
	if len(all) == 0 {
		return none
	}
	texts := make([]string, 0, 2*len(all))
	for _, p := range all {
		texts = append(texts, wire.String(p.Name), wire.String(p.Value))
	}
	return row(texts...)
}

// row are texts in brackets, with a space between.
func row(texts ...string) string { return "(" + spaced(texts...) + ")" }

// spaced are texts with a space between.
func spaced(texts ...string) string { return strings.Join(texts, " ") }
