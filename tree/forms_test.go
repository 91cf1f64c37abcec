package tree

import (
	"regexp"
	"strings"

	"letterbox/api"
)

// These are forms of what a message's tree should be: they go by regular expressions, not by lines.

var (
	emptyForm    = regexp.MustCompile(`(?m)^\r?\n`)
	foldForm     = regexp.MustCompile(`\r?\n([ \t])`)
	typeForm     = regexp.MustCompile(`(?mi)^content-type[ \t]*:[ \t]*(.*?)[ \t]*\r?$`)
	encodingForm = regexp.MustCompile(`(?mi)^content-transfer-encoding[ \t]*:[ \t]*(.*?)[ \t]*\r?$`)
	pairForm     = regexp.MustCompile(`^([a-z0-9]+)/([a-z0-9]+)`)
	boundaryForm = regexp.MustCompile(`; boundary=(?:"([^"]*)"|([^"\s;]+))`)
	endForm      = regexp.MustCompile(`\r?\n\z`)
	bareForm     = regexp.MustCompile(`(?i)\A(|7bit|8bit|binary)\z`)
)

// wanted are what Parse should answer of a message that is made of plain fields.
type wanted struct {
	b     string
	count int
}

// entity is the part of the bytes from one on, below another one.
func (w *wanted) entity(from, to, depth int, unsaid string) Part {
	head := w.b[from:to]
	if at := emptyForm.FindStringIndex(head); at != nil {
		head = head[:at[1]]
	}
	behind := from + len(head)
	leaf := Part{Head: api.Span{From: from, To: behind}, Body: api.Span{From: behind, To: to}}
	if depth == 32 {
		return leaf
	}
	kind, boundary := typeWanted(head, unsaid)
	p := leaf
	kids := []api.Span{leaf.Body}
	switch {
	case kind == "message/rfc822" && bareForm.MatchString(valueOf(encodingForm, head)):
		p.Kind = 2
	case strings.HasPrefix(kind, "multipart/") && len(boundary) >= 1 && len(boundary) <= 70:
		p.Kind = 1
		kids = w.cut(&p, boundary)
	default:
		return leaf
	}
	if len(kids) == 0 || w.count+len(kids) > 1000 {
		return leaf
	}
	w.count += len(kids)
	unsaid = "text/plain"
	if kind == "multipart/digest" {
		unsaid = "message/rfc822"
	}
	for _, kid := range kids {
		p.Kids = append(p.Kids, w.entity(kid.From, kid.To, depth+1, unsaid))
	}
	return p
}

// cut gives a part its delimiters, and tells what stands between.
func (w *wanted) cut(p *Part, boundary string) []api.Span {
	body := w.b[p.Body.From:p.Body.To]
	form := regexp.MustCompile(`(?m)^--` + regexp.QuoteMeta(boundary) + `(--)?[ \t]*(?:\r?\n|\z)`)
	p.End = api.Span{From: p.Body.To, To: p.Body.To}
	at := 0
	for _, place := range form.FindAllStringSubmatchIndex(body, -1) {
		from := place[0]
		if end := endForm.FindStringIndex(body[at:from]); end != nil {
			from = at + end[0]
		}
		at = place[1]
		span := api.Span{From: p.Body.From + from, To: p.Body.From + at}
		if place[2] >= 0 {
			p.End = span
			break
		}
		p.Cuts = append(p.Cuts, span)
	}
	var kids []api.Span
	for i, cut := range p.Cuts {
		ends := append(p.Cuts[1:len(p.Cuts):len(p.Cuts)], p.End)
		kids = append(kids, api.Span{From: cut.To, To: ends[i].From})
	}
	return kids
}

// typeWanted are the type and the boundary that a header tells.
func typeWanted(head, unsaid string) (string, string) {
	value := valueOf(typeForm, head)
	pair := pairForm.FindString(strings.ToLower(value))
	if pair == "" {
		return unsaid, ""
	}
	boundary := boundaryForm.FindStringSubmatch(value)
	if boundary == nil {
		return pair, ""
	}
	return pair, boundary[1] + boundary[2]
}

// valueOf is a field's, by its form.
func valueOf(form *regexp.Regexp, head string) string {
	found := form.FindStringSubmatch(foldForm.ReplaceAllString(head, "$1"))
	if found == nil {
		return ""
	}
	return found[1]
}

// treeWanted is what Parse should answer.
func treeWanted(text string) Part {
	w := wanted{b: text, count: 1}
	return w.entity(0, len(text), 0, "text/plain")
}
