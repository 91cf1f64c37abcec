package fetch

import (
	"reflect"
	"regexp"
	"slices"
	"strconv"
	"strings"
	"testing"

	"letterbox/section"
	"letterbox/tree"
)

// These are forms of what Find, Get and Size should answer: all parts of a message by the texts of their paths, and fields by a regular expression.

// parts are all parts of a message that have a path, by its text.
type parts map[string]tree.Part

// message tells the parts of a message behind a path.
func (all parts) message(m tree.Part, path string) {
	if m.Kind == 1 {
		all.kids(m, path)
		return
	}
	all[path+".1"] = m
	all.below(m, path+".1")
}

// kids tells the parts of a Multi.
func (all parts) kids(p tree.Part, path string) {
	for i, kid := range p.Kids {
		path := path + "." + strconv.Itoa(i+1)
		all[path] = kid
		all.below(kid, path)
	}
}

// below tells the parts of a part that has a path.
func (all parts) below(p tree.Part, path string) {
	if p.Kind == 1 {
		all.kids(p, path)
	}
	if p.Kind == 2 && len(p.Kids) > 0 {
		all.message(p.Kids[0], path)
	}
}

// partsOfMessage are those of a message.
func partsOfMessage(p tree.Part) parts {
	all := parts{}
	all.message(p, "")
	return all
}

// pathText is the text of a path, as parts are told by.
func pathText(path []int) string {
	text := ""
	for _, n := range path {
		text += "." + strconv.Itoa(n)
	}
	return text
}

// pathOf is the path of a text.
func pathOf(text string) []int {
	var path []int
	for _, number := range strings.Split(text, ".")[1:] {
		n, _ := strconv.Atoi(number)
		path = append(path, n)
	}
	return path
}

var (
	fieldForm = regexp.MustCompile(`(?m)^([!-9;-~]+)[ \t]*:[^\n]*\n?(?:[ \t][^\n]*(?:\n|\z))*`)
	emptyForm = regexp.MustCompile(`(?m)^\r?\n`)
)

// fieldsWanted are some fields of a header, or all others, and an empty line.
func fieldsWanted(head string, names []string, but bool) string {
	if end := emptyForm.FindStringIndex(head); end != nil {
		head = head[:end[0]]
	}
	all := ""
	for _, field := range fieldForm.FindAllStringSubmatch(head, -1) {
		is := slices.ContainsFunc(names, func(name string) bool { return strings.EqualFold(name, field[1]) })
		if is == but {
			continue
		}
		all += field[0]
		if !strings.HasSuffix(field[0], "\n") {
			all += "\r\n"
		}
	}
	return all + "\r\n"
}

// piece is what stands between two places; nothing, if one isn't there.
func piece(text string, from, to int) string {
	if from < 0 || from > to || to > len(text) {
		return ""
	}
	return text[from:to]
}

// wanted is what a spec, which section takes, tells of a message, whatever is cut.
func wanted(text string, p tree.Part, s section.Spec) string {
	if len(s.Path) == 0 {
		return messageWanted(text, p, s)
	}
	part, is := partsOfMessage(p)[pathText(s.Path)]
	switch {
	case is && s.What == 0:
		return piece(text, part.Body.From, part.Body.To)
	case is && s.What == 5:
		return piece(text, part.Head.From, part.Head.To)
	case is && part.Kind == 2 && len(part.Kids) > 0:
		return messageWanted(text, part.Kids[0], s)
	}
	return ""
}

// messageWanted is what a spec tells of a message as a whole.
func messageWanted(text string, m tree.Part, s section.Spec) string {
	switch s.What {
	case 0:
		return piece(text, m.Head.From, m.Body.To)
	case 1:
		return piece(text, m.Head.From, m.Head.To)
	case 4:
		return piece(text, m.Body.From, m.Body.To)
	}
	return fieldsWanted(piece(text, m.Head.From, m.Head.To), s.Names, s.What == 3)
}

// cutWanted are so many bytes of a text at most, from one on, taken one by one.
func cutWanted(text string, from, many int) string {
	cut := ""
	for at := range len(text) {
		if from >= 0 && at >= from && at-from < many {
			cut += text[at : at+1]
		}
	}
	return cut
}

// check holds Get and Size of a spec that section takes against what is wanted.
func check(t *testing.T, text string, p tree.Part, s section.Spec) {
	t.Helper()
	want := wanted(text, p, s)
	if n := Size([]byte(text), p, s); n != len(want) {
		t.Fatalf("Size of %v of %q: %d, not %d", s, text, n, len(want))
	}
	if s.Cut {
		want = cutWanted(want, s.From, s.Many)
	}
	if got := string(Get([]byte(text), p, s)); got != want {
		t.Fatalf("Get of %v of %q: %q, not %q", s, text, got, want)
	}
}

// checkFind holds Find of a path against all parts that are there.
func checkFind(t *testing.T, p tree.Part, all parts, path []int) bool {
	t.Helper()
	want, should := all[pathText(path)]
	got, is := Find(p, path)
	if is != should || !reflect.DeepEqual(got, want) {
		t.Fatalf("Find of %v: %v, %v, not %v, %v", path, got, is, want, should)
	}
	return is
}

// specsOf are specs of a path, of all kinds.
func specsOf(path []int) []section.Spec {
	all := []section.Spec{{Path: path}, {Path: path, What: 1}, {Path: path, What: 4}}
	if len(path) > 0 {
		all = append(all, section.Spec{Path: path, What: 5})
	}
	for _, names := range [][]string{{"subject"}, {"To", "CONTENT-TYPE"}, {"x"}, {""}, {"subject", "Subject", "to:"}} {
		all = append(all, section.Spec{Path: path, What: 2, Names: names}, section.Spec{Path: path, What: 3, Names: names})
	}
	return all
}

// eachRow tells all rows of at most so many numbers from one on, up to another.
func eachRow(most, from, to int, tell func(row []int)) {
	var rows func(row []int)
	rows = func(row []int) {
		tell(row)
		for n := from; n <= to && len(row) < most; n++ {
			rows(append(row[:len(row):len(row)], n))
		}
	}
	rows(nil)
}

// messages are texts of all kinds of parts.
func messages() []string {
	mixed := "Subject: m\r\nContent-Type: multipart/mixed; boundary=a\r\nTo: a,\r\n b\r\n\r\n"
	digest := "Content-Type: multipart/digest; boundary=b\n\n"
	message := "To : q\nContent-Type: message/rfc822\n x\nno field\n y: z\n\n"
	return []string{
		"", "x", "\n", "Subject: a\r\n\r\nx\r\ny", "Subject: a", "Subject: a\n b\r", "To: a\nsubject: b\r\n\tc\nTO: d\nX : e",
		mixed + "--a\n", mixed + "--a--\n", mixed + "p\r\n--a\r\n\r\nx\r\n--a\r\nTo: k\r\n\r\ny\r\n--a--\r\nq",
		mixed + "--a\n\nx\n--a\n--a\nSubject: c\n\n\n--a--", message, message + "Subject: b\n\nx", message + message + "x",
		message + mixed + "--a\n\nx\n--a--\n", message + message + digest + "--b\n\nSubject: s\nTo: t\n\nu\n--b\n\n" + mixed + "--a\nX:y\n\nz",
		mixed + "--a\n" + digest + "p\n--b\n\nSubject: b\n\nx\n--b\n\n\ny\n--b--\nq\n--a\n" + message + "To: b\n\nz\n--a--\nq",
		mixed + "--a\n" + digest + "--b\n" + message + "To: b\n\nx\n--a\n" + message + digest + "--b\n\n\n--b--\n--a--",
	}
}
