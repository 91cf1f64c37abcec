package structure

import (
	"fmt"
	"math/rand"
	"strconv"
	"strings"
)

// These are messages that are laid of pieces, each of which is known by how it is told.

// made is an entity that is laid, and how it should be told: by Put without all and with all, by Kind, and by its envelope.
type made struct {
	text     string
	put      [2]string
	kind     [3]string
	envelope string
}

// written is a field's body, and how it is told; without a body there is no field.
type written struct{ body, told string }

// typed is a type's field, and how that is told.
type typed struct {
	body string
	kind [3]string
}

// texts are bodies of fields that are told as they are.
func texts() []written {
	return []written{
		{"", "NIL"}, {"", "NIL"}, {":", `""`}, {": \t", `""`}, {":\r\n \t", `""`}, {":x", `"x"`}, {" : <1@x> ", `"<1@x>"`},
		{": a\r\n b\n  c", `"a b  c"`}, {": a\n\tb", "{3}\r\na\tb"}, {`: "a" \`, `"\"a\" \\"`}, {": é", "{2}\r\né"}, {": \x00\xff", "~{2}\r\n\x00\xff"},
		{": NIL", `"NIL"`}, {": (a) [b]", `"(a) [b]"`}, {": =?utf-8?Q?x?=", `"=?utf-8?Q?x?="`}, {": a;b=c", `"a;b=c"`},
	}
}

// dispositions are bodies of fields that tell how a part is shown.
func dispositions() []written {
	return []written{
		{"", "NIL"}, {":", "NIL"}, {": ;a=b", "NIL"}, {": (inline)", "NIL"}, {": \"inline\"", "NIL"},
		{": inline", `("inline" NIL)`}, {": INLINE (x)", `("inline" NIL)`}, {": a/b; c=d", `("a" NIL)`},
		{":\r\n Attachment;\r\n FileName=\"A \\\"b\"; size=3", `("attachment" ("filename" "A \"b" "size" "3"))`},
		{": attachment; filename*=utf-8''%C3%A9", "(\"attachment\" (\"filename\" {2}\r\né))"},
	}
}

// encodings are bodies of transfer encodings, and those of bodies that stand as they are.
func encodings() (all, bare []written) {
	bare = []written{{"", `"7bit"`}, {":", `"7bit"`}, {": 7bit", `"7bit"`}, {": 8BIT", `"8bit"`}, {": Binary ", `"binary"`}}
	return append([]written{{": Base64", `"base64"`}, {": quoted-printable", `"quoted-printable"`}, {": X-\"Own\"", `"x-\"own\""`}}, bare...), bare
}

// broken are types that tell nothing.
func broken() []string {
	return []string{"", ":", ": text", ": /html", ": text/", ": text html", ": \"text\"/html", ": text/;charset=a", ": x\"y/z"}
}

// leafTypes are types of parts without parts; those of a digest must tell something.
func leafTypes(digest bool) []typed {
	octets := [3]string{"application", "octet-stream", "NIL"}
	all := []typed{
		{": text/html", [3]string{"text", "html", "NIL"}},
		{": TEXT/Plain; Charset=\"UTF-8\"; format=flowed", [3]string{"text", "plain", `("charset" "UTF-8" "format" "flowed")`}},
		{": text (c) / (d) x-own ; A=b;", [3]string{"text", "x-own", `("a" "b")`}},
		{": image/png;\r\n name=\"a\\\"b\"", [3]string{"image", "png", `("name" "a\"b")`}},
		{": image/png; name*=''%00%FF", [3]string{"image", "png", "(\"name\" ~{2}\r\n\x00\xff)"}},
		{": textual/plain; a=", [3]string{"textual", "plain", "NIL"}},
		{": message/partial; id=x; number=1", [3]string{"message", "partial", `("id" "x" "number" "1")`}},
		{": x/rfc822", [3]string{"x", "rfc822", "NIL"}},
		{": multipart/mixed; x=y", octets},
		{": multipart/alternative; boundary=nowhere", octets},
		{": Multipart/Digest", octets},
	}
	if digest {
		return all
	}
	for _, body := range broken() {
		all = append(all, typed{body, [3]string{"text", "plain", `("charset" "us-ascii")`}})
	}
	return all
}

// maker lays entities.
type maker struct {
	r     *rand.Rand
	parts int
}

// heading is a header that is laid, and how its fields are told.
type heading struct {
	fields []string
	told   map[string]string
}

// end is some line's end.
func (m *maker) end() string { return drawn(m.r, "\n", "\r\n") }

// field lays one, if it has a body, and tells how it is told.
func (m *maker) field(h *heading, name string, w written) {
	h.told[name] = w.told
	if w.body == "" {
		return
	}
	name = drawn(m.r, name, strings.ToUpper(name), strings.ToUpper(name[:1])+name[1:])
	field := name + w.body + m.end()
	// The first one of a name counts.
	if m.r.Intn(8) == 0 {
		field += name + ": of no use; a=b" + m.end()
	}
	h.fields = append(h.fields, field)
}

// heading lays the fields that all entities may have.
func (m *maker) heading(types, encoding written) heading {
	h := heading{told: map[string]string{}}
	for _, name := range []string{"content-id", "content-description", "content-md5", "content-language", "content-location"} {
		m.field(&h, name, drawn(m.r, texts()...))
	}
	for _, name := range []string{"date", "subject", "in-reply-to", "message-id"} {
		m.field(&h, name, drawn(m.r, texts()...))
	}
	m.field(&h, "content-disposition", drawn(m.r, dispositions()...))
	m.field(&h, "content-transfer-encoding", encoding)
	m.field(&h, "content-type", types)
	m.field(&h, "from", drawn(m.r, written{"", "NIL"}, written{": A <a@b>", `(("A" NIL "a" "b"))`}))
	m.field(&h, "x-content-id", drawn(m.r, written{}, written{": no", ""}))
	m.r.Shuffle(len(h.fields), func(i, k int) { h.fields[i], h.fields[k] = h.fields[k], h.fields[i] })
	return h
}

// filled is a form in which each name in <> is how that field is told.
func (h heading) filled(form string) string {
	for name, told := range h.told {
		form = strings.ReplaceAll(form, "<"+name+">", strings.ReplaceAll(told, "<", "\x01"))
	}
	return strings.ReplaceAll(form, "\x01", "<")
}

// laid is an entity of a header and a body; two forms tell how it is told, without all and with all, ahead of what all parts end with.
func (m *maker) laid(h heading, body string, forms [2]string, kind [3]string) made {
	const rest = " <content-disposition> <content-language> <content-location>"
	return made{
		text:     strings.Join(h.fields, "") + m.end() + body,
		put:      [2]string{"(" + h.filled(forms[0]) + ")", "(" + h.filled(forms[1]+rest) + ")"},
		kind:     kind,
		envelope: h.filled("(<date> <subject> <from> <from> <from> NIL NIL NIL <in-reply-to> <message-id>)"),
	}
}

// single is the form of a part that is no Multi, up to its length.
func single(kind [3]string, body string) string {
	return fmt.Sprintf(`"%s" "%s" %s <content-id> <content-description> <content-transfer-encoding> %d`, kind[0], kind[1], kind[2], len(body))
}

// leaf lays a part without parts.
func (m *maker) leaf(digest bool) made {
	all, _ := encodings()
	kind, encoding := drawn(m.r, leafTypes(digest)...), drawn(m.r, all...)
	if m.r.Intn(8) == 0 {
		// A message that can't be seen through.
		kind, encoding = typed{": message/rfc822; a=b", [3]string{"application", "octet-stream", "NIL"}}, all[m.r.Intn(3)]
	}
	body := drawn(m.r, "", "a", "a\n", "a\r\nb", "\n", "\r\n\r\n", "--", "--part\n", "\x00\xff\r\n ", "A: b\r\n\r\nc\n")
	form := single(kind.kind, body)
	if kind.kind[0] == "text" {
		form += " " + strconv.Itoa(linesWanted(body))
	}
	return m.laid(m.heading(written{kind.body, ""}, encoding), body, [2]string{form, form + " <content-md5>"}, kind.kind)
}

// message lays a message within a part.
func (m *maker) message(depth int, digest bool) made {
	_, bare := encodings()
	kind := drawn(m.r,
		typed{": message/rfc822", [3]string{"message", "rfc822", "NIL"}},
		typed{": Message/RFC822; A=\"b c\"", [3]string{"message", "rfc822", `("a" "b c")`}})
	if digest {
		kind = typed{drawn(m.r, broken()...), [3]string{"message", "rfc822", "NIL"}}
	}
	kid := m.entity(depth+1, false)
	h := m.heading(written{kind.body, ""}, drawn(m.r, bare...))
	h.told["kid 0"], h.told["kid 1"], h.told["envelope"] = kid.put[0], kid.put[1], kid.envelope
	form, count := single(kind.kind, kid.text), strconv.Itoa(linesWanted(kid.text))
	forms := [2]string{form + " <envelope> <kid 0> " + count, form + " <envelope> <kid 1> " + count + " <content-md5>"}
	return m.laid(h, kid.text, forms, kind.kind)
}

// multi lays a part of several.
func (m *maker) multi(depth int) made {
	m.parts++
	mark := "part" + strconv.Itoa(m.parts)
	kind := drawn(m.r,
		typed{": multipart/mixed; boundary=" + mark, [3]string{"multipart", "mixed", `("boundary" "` + mark + `")`}},
		typed{": Multipart/X-Own; boundary*0=\"" + mark[:4] + "\"; boundary*1=" + mark[4:], [3]string{"multipart", "x-own", `("boundary" "` + mark + `")`}},
		typed{": MULTIPART/digest;\r\n A=b; BOUNDARY=\"" + mark + "\"; c=\"\"", [3]string{"multipart", "digest", `("a" "b" "boundary" "` + mark + `" "c" "")`}})
	all, _ := encodings()
	h := m.heading(written{kind.body, ""}, drawn(m.r, all...))
	body, kids := drawn(m.r, "", "pre\n", "\r\n"), [2]string{}
	for n := range 1 + m.r.Intn(3) {
		kid := m.entity(depth+1, kind.kind[1] == "digest")
		if n > 0 {
			body += m.end()
		}
		body += "--" + mark + drawn(m.r, "", " \t") + m.end() + kid.text
		kids[0], kids[1] = kids[0]+kid.put[0], kids[1]+kid.put[1]
	}
	body += drawn(m.r, "", "\n--"+mark+"--", "\r\n--"+mark+"-- \npost\n--"+mark+"\n\nno part")
	h.told["kids 0"], h.told["kids 1"] = kids[0], kids[1]
	sub := ` "` + kind.kind[1] + `"`
	return m.laid(h, body, [2]string{"<kids 0>" + sub, "<kids 1>" + sub + " " + kind.kind[2]}, kind.kind)
}

// entity lays one of any kind.
func (m *maker) entity(depth int, digest bool) made {
	switch n := m.r.Intn(5); {
	case depth < 4 && n == 0, depth == 0 && n == 1:
		return m.multi(depth)
	case depth < 4 && n == 2:
		return m.message(depth, digest)
	}
	return m.leaf(digest)
}
