package binary

import (
	"regexp"
	"strings"
	"testing"

	"letterbox/api"
	"letterbox/b64"
	"letterbox/fetch"
	"letterbox/qp"
	"letterbox/tree"
)

// These are forms of what Encoding, Get and Size should answer: a header is read by regular expressions, and what its encoding asks for is listed name by name.

var (
	fieldForm = regexp.MustCompile(`(?mi)^content-transfer-encoding[ \t]*:([^\n]*(?:\n[ \t][^\n]*)*)`)
	emptyForm = regexp.MustCompile(`(?m)^\r?\n`)
)

// piece is what stands between two places; nothing, if one isn't there.
func piece(text string, s api.Span) string {
	if s.From < 0 || s.From > s.To || s.To > len(text) {
		return ""
	}
	return text[s.From:s.To]
}

// encodingWanted is what Encoding should answer.
func encodingWanted(text string, p tree.Part) string {
	head := piece(text, p.Head)
	if end := emptyForm.FindStringIndex(head); end != nil {
		head = head[:end[0]]
	}
	at := fieldForm.FindStringSubmatchIndex(head)
	if at == nil {
		return "7bit"
	}
	body := head[at[2]:at[3]]
	if at[3] < len(head) {
		// A line feed stands right behind, so a carriage return is a part of the line's end.
		body = strings.TrimSuffix(body, "\r")
	}
	body = strings.NewReplacer("\r\n", "", "\n", "").Replace(body)
	body = strings.Trim(body, " \t")
	if body == "" {
		return "7bit"
	}
	return small(body)
}

// small is a text whose letters are small ones, byte by byte.
func small(text string) string {
	all := []byte(text)
	for i, c := range all {
		if 'A' <= c && c <= 'Z' {
			all[i] = c | 32
		}
	}
	return string(all)
}

// wanted is what Get should answer.
func wanted(text string, p tree.Part, path []int) (string, api.Errno) {
	if len(path) == 0 {
		return piece(text, api.Span{From: p.Head.From, To: p.Body.To}), api.OK
	}
	part, is := fetch.Find(p, path)
	if !is {
		return "", api.ErrNone
	}
	body := piece(text, part.Body)
	if part.Kind == 1 {
		return body, api.OK
	}
	decode := map[string]func([]byte) ([]byte, bool){"base64": b64.Decode, "quoted-printable": qp.Decode}
	for _, name := range []string{"7bit", "8bit", "binary"} {
		decode[name] = func(b []byte) ([]byte, bool) { return b, true }
	}
	if f, is := decode[encodingWanted(text, part)]; is {
		if told, whole := f([]byte(body)); whole {
			return string(told), api.OK
		}
	}
	return "", api.ErrCte
}

// check holds Get and Size of a path against what is wanted, and tells the error.
func check(t *testing.T, text string, p tree.Part, path ...int) api.Errno {
	t.Helper()
	want, wrong := wanted(text, p, path)
	if got, err := Get([]byte(text), p, path); string(got) != want || err != wrong {
		t.Fatalf("Get of %v of %q, of %v: %q, %v, not %q, %v", path, text, p, got, err, want, wrong)
	}
	if n, err := Size([]byte(text), p, path); n != len(want) || err != wrong {
		t.Fatalf("Size of %v of %q, of %v: %d, %v, not %d, %v", path, text, p, n, err, len(want), wrong)
	}
	return wrong
}

// checkEncoding holds Encoding of a part against what is wanted.
func checkEncoding(t *testing.T, text string, p tree.Part) {
	t.Helper()
	want := encodingWanted(text, p)
	if got := Encoding([]byte(text), p); got != want {
		t.Fatalf("Encoding of %v of %q: %q, not %q", p, text, got, want)
	}
}

// eachRow tells all rows of at most so many of some things.
func eachRow[T any](most int, of []T, tell func(row []T)) {
	var rows func(row []T)
	rows = func(row []T) {
		tell(row)
		for _, one := range of {
			if len(row) < most {
				rows(append(row[:len(row):len(row)], one))
			}
		}
	}
	rows(nil)
}
