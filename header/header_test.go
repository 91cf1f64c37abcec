package header

import (
	"bytes"
	"math"
	"regexp"
	"slices"
	"strings"
	"testing"

	"letterbox/api"
)

// allBytes are the bytes 0 to 255, in order.
func allBytes() []byte {
	all := make([]byte, 256)
	for i := range all {
		all[i] = byte(i)
	}
	return all
}

// mixed are n bytes that don't repeat soon, with many fields among them.
func mixed(n int) []byte {
	var b []byte
	pieces := []string{"A: b\n", "b :c\r\n", " d\n", "\te\r\n", "C:", "\n", "x\n", "\xff", " ", ":", "a", "\r"}
	state := uint32(n) + 1
	for len(b) < n {
		state = state*1664525 + 1013904223
		b = append(b, pieces[state>>24%uint32(len(pieces))]...)
	}
	return b[:n]
}

// texts are all texts of at most so many of the pieces.
func texts(pieces []string, most int) []string {
	all := []string{""}
	from := 0
	for range most {
		to := len(all)
		for _, text := range all[from:to] {
			for _, piece := range pieces {
				all = append(all, text+piece)
			}
		}
		from = to
	}
	return all
}

// whole is all of bytes.
func whole(b []byte) api.Span { return api.Span{From: 0, To: len(b)} }

// of are the fields of all of a text.
func of(text string) ([]byte, []Field) {
	b := []byte(text)
	l, _ := Of(b, whole(b))
	return b, l
}

var (
	firstForm = regexp.MustCompile(`^([!-9;-~]+)[\t ]*:`)
	moreForm  = regexp.MustCompile(`^[\t ]`)
	endForm   = regexp.MustCompile(`^\r?\n$`)
	feedForm  = regexp.MustCompile(`\r?\n`)
)

// wanted is what Of should answer, by the form of each line.
func wanted(b []byte, s api.Span) ([]Field, int) {
	var all []Field
	if s.From < 0 || s.From > s.To || s.To > len(b) {
		return all, s.From
	}
	at, open := s.From, false
	for _, line := range bytes.SplitAfter(b[s.From:s.To], []byte("\n")) {
		next := at + len(line)
		switch first := firstForm.FindSubmatchIndex(line); {
		case endForm.Match(line):
			return all, next
		case moreForm.Match(line):
			if open {
				all[len(all)-1].To = next
			}
		default:
			if open = first != nil; open {
				all = append(all, Field{string(line[:first[3]]), at, at + first[1], next})
			}
		}
		at = next
	}
	return all, s.To
}

// wantedBody is what Body should answer of a part that is there.
func wantedBody(b []byte, from, to int) string {
	return strings.Trim(string(feedForm.ReplaceAll(b[from:to], nil)), " \t")
}

// check holds Of of a part, and the bodies, against what is wanted, and what follows.
func check(t *testing.T, b []byte, s api.Span) {
	t.Helper()
	want, wantBehind := wanted(b, s)
	got, behind := Of(b, s)
	if !slices.Equal(got, want) || behind != wantBehind {
		t.Fatalf("Of(%q, %v) = %v, %d, not %v, %d", b, s, got, behind, want, wantBehind)
	}
	at := s.From
	for _, f := range got {
		if f.From < at || f.Body <= f.From || f.To < f.Body || f.To > behind {
			t.Fatalf("of %q, %v: %v doesn't stand behind %d", b, s, f, at)
		}
		body := Body(b, f)
		if body != wantedBody(b, f.Body, f.To) || strings.Contains(body, "\n") {
			t.Fatalf("of %q, %v: Body of %v is %q", b, s, f, body)
		}
		at = f.To
	}
}

// ofText is a text, and what Of should answer of all of it.
type ofText struct {
	text   string
	want   []Field
	behind int
}

// checkTexts holds Of of all of texts against what is wanted.
func checkTexts(t *testing.T, all []ofText) {
	t.Helper()
	for _, c := range all {
		b := []byte(c.text)
		got, behind := Of(b, whole(b))
		if !slices.Equal(got, c.want) || behind != c.behind {
			t.Errorf("Of(%q) = %v, %d, not %v, %d", c.text, got, behind, c.want, c.behind)
		}
	}
}

// P6.1: fields of all of a text, and where what follows the header begins.
func TestOf(t *testing.T) {
	checkTexts(t, []ofText{
		{"A: b\n c\n\n", []Field{{"A", 0, 2, 8}}, 9},
		{"", nil, 0},
		{"A: b", []Field{{"A", 0, 2, 4}}, 4},
		{"A:", []Field{{"A", 0, 2, 2}}, 2},
		{"A:\r\n", []Field{{"A", 0, 2, 4}}, 4},
		{"A:\r", []Field{{"A", 0, 2, 3}}, 3},
		{"Ab-c:d\r\nE:f\r\n\r\nG:h\r\n", []Field{{"Ab-c", 0, 5, 8}, {"E", 8, 10, 13}}, 15},
		{"A:b\nC:d\n\nE:f\n", []Field{{"A", 0, 2, 4}, {"C", 4, 6, 8}}, 9},
		// A header that is one line without text, or has none.
		{"\r\nA:b\r\n", nil, 2},
		{"\nA:b\n", nil, 1},
		{"A:b\nC:d", []Field{{"A", 0, 2, 4}, {"C", 4, 6, 7}}, 7},
		{"A:b\n\r", []Field{{"A", 0, 2, 4}}, 5},
		{"A:b\n\r\r\nC:d\n", []Field{{"A", 0, 2, 4}, {"C", 7, 9, 11}}, 11},
		// A line of blanks has a text.
		{"A:b\n \nC:d\n\t\t\r\n\nE:f", []Field{{"A", 0, 2, 6}, {"C", 6, 8, 14}}, 15},
		// Blanks ahead of the colon are none of the name.
		{"A : b\n", []Field{{"A", 0, 3, 6}}, 6},
		{"A \t \t: b\n", []Field{{"A", 0, 6, 9}}, 9},
		// The first colon of a line ends the name.
		{"A:b:c\n", []Field{{"A", 0, 2, 6}}, 6},
		{"A::\n", []Field{{"A", 0, 2, 4}}, 4},
		{"A :b: c\n", []Field{{"A", 0, 3, 8}}, 8},
		{"!~\"(){}[]@,;<>=: b", []Field{{"!~\"(){}[]@,;<>=", 0, 16, 18}}, 18},
		// Names stay as they are, and may stand there twice.
		{"a:1\nA:2\na:3\n", []Field{{"a", 0, 2, 4}, {"A", 4, 6, 8}, {"a", 8, 10, 12}}, 12},
		// A field goes on in each line that begins with a blank, whatever else it has.
		{"A:\n b:c\n\t:d\n :\nE:f\n", []Field{{"A", 0, 2, 15}, {"E", 15, 17, 19}}, 19},
		{"A:b\r\n c\r\n\td\r\n\r\n", []Field{{"A", 0, 2, 13}}, 15},
	})
}

// P6.1: lines that are no field, and what follows on them.
func TestOfNone(t *testing.T) {
	checkTexts(t, []ofText{
		{"no field\n", nil, 9},
		{":\n", nil, 2},
		{": a\n", nil, 4},
		{"::\n", nil, 3},
		{":a: b\n", nil, 6},
		{" : a\n", nil, 5},
		{"\t \t: a\n", nil, 7},
		{" A: b\n", nil, 6},
		{"\tA: b\n\n", nil, 7},
		{"A b: c\n", nil, 7},
		{"A b: c: d\n", nil, 10},
		{"A b : c\n", nil, 8},
		{"A\tb:c\n", nil, 6},
		{"A\r: b\n", nil, 6},
		{"A\x00: b\n", nil, 6},
		{"A\x7f: b\n", nil, 6},
		{"\x1fA: b\n", nil, 6},
		{"A\x80: b\n", nil, 6},
		{"\xc3\x84: b\n", nil, 6},
		{"A\v: b\n", nil, 6},
		{"From a b 10:20\n", nil, 15},
		{"A\n:b\n", nil, 5},
		// What follows on a line that is no field isn't one, and ends none.
		{"no\n on\nA:b\n", []Field{{"A", 7, 9, 11}}, 11},
		{"A:b\nno\n on\n\tA:c\n", []Field{{"A", 0, 2, 4}}, 16},
		{"A:b\nno\nC:d\n e\n", []Field{{"A", 0, 2, 4}, {"C", 7, 9, 14}}, 14},
		{" on\nA:b\n c\n", []Field{{"A", 4, 6, 11}}, 11},
		{" on\n on\n\nA:b\n", nil, 9},
		{"A:b\n:\n c\n", []Field{{"A", 0, 2, 4}}, 9},
	})
}

// P6.1: a part's header begins and ends with it, whatever stands around it.
func TestOfPart(t *testing.T) {
	b := []byte("A:b\r\nC:d\r\n\r\nE:f")
	for _, c := range []struct {
		from, to int
		want     []Field
		behind   int
	}{
		{0, 15, []Field{{"A", 0, 2, 5}, {"C", 5, 7, 10}}, 12},
		{5, 15, []Field{{"C", 5, 7, 10}}, 12},
		{12, 15, []Field{{"E", 12, 14, 15}}, 15},
		{0, 10, []Field{{"A", 0, 2, 5}, {"C", 5, 7, 10}}, 10},
		{0, 11, []Field{{"A", 0, 2, 5}, {"C", 5, 7, 10}}, 11},
		{0, 4, []Field{{"A", 0, 2, 4}}, 4},
		{0, 2, []Field{{"A", 0, 2, 2}}, 2},
		{0, 1, nil, 1},
		{1, 15, []Field{{"C", 5, 7, 10}}, 12},
		{3, 15, nil, 5},
		{4, 15, nil, 5},
		{10, 15, nil, 12},
		{11, 15, nil, 12},
		{0, 0, nil, 0},
		{7, 7, nil, 7},
		{15, 15, nil, 15},
		// Parts that aren't there.
		{-1, 15, nil, -1},
		{-7, -3, nil, -7},
		{0, 16, nil, 0},
		{5, 16, nil, 5},
		{5, 4, nil, 5},
		{16, 16, nil, 16},
		{99, 3, nil, 99},
		{math.MinInt, math.MaxInt, nil, math.MinInt},
		{math.MaxInt, math.MinInt, nil, math.MaxInt},
		{2, math.MaxInt, nil, 2},
	} {
		s := api.Span{From: c.from, To: c.to}
		if got, behind := Of(b, s); !slices.Equal(got, c.want) || behind != c.behind {
			t.Errorf("Of(%v) = %v, %d, not %v, %d", s, got, behind, c.want, c.behind)
		}
	}
	if got, behind := Of(nil, api.Span{}); len(got) != 0 || behind != 0 {
		t.Errorf("Of nothing = %v, %d", got, behind)
	}
	// What stands behind a list's end is none of it.
	if got, behind := Of(b[:4], api.Span{From: 0, To: 5}); len(got) != 0 || behind != 0 {
		t.Errorf("Of a part behind the bytes = %v, %d", got, behind)
	}
}

// P6.1, P6.2, P6.4: all short texts of bytes that matter, and all parts of the shortest.
func TestAllShort(t *testing.T) {
	for _, text := range texts([]string{"\r", "\n", " ", "\t", ":", "a", "\x7f"}, 6) {
		b := []byte(text)
		check(t, b, whole(b))
		if len(b) > 4 {
			continue
		}
		for from := -1; from < len(b)+2; from++ {
			for to := -1; to < len(b)+2; to++ {
				check(t, b, api.Span{From: from, To: to})
			}
		}
	}
}

// P6.1, P6.2, P6.4: all texts of a few lines.
func TestFewLines(t *testing.T) {
	for _, text := range texts([]string{"A:b\n", "C :\r\n", " d\r\n", "\t:e \n", "no\n", ":\n", "\n", "\r\n"}, 5) {
		for _, last := range []string{"", "F:g", " h", "\r"} {
			b := []byte(text + last)
			check(t, b, whole(b))
		}
	}
}

// P6.1: of each byte, whether it may stand in a name, ahead of its colon, or begin a line that goes on.
func TestEachByte(t *testing.T) {
	for _, c := range allBytes() {
		for _, row := range [][]byte{
			{c, ':'}, {'a', c, ':'}, {c, 'a', ':'}, {'a', c, 'b', ':', 'c'}, {'a', ' ', c, ':'}, {'a', ':', c, 'b'},
			{'a', ':', '\n', c, 'b', '\n'}, {'a', ':', 'b', '\n', c, '\n', 'd', ':'}, {'x', '\n', c, 'a', ':', '\n'},
		} {
			check(t, row, whole(row))
		}
	}
	check(t, allBytes(), whole(allBytes()))
}

// P6.1, P6.4: long headers.
func TestLong(t *testing.T) {
	for _, n := range []int{100, 999, 1 << 14} {
		for from := range min(n, 200) {
			check(t, mixed(n), api.Span{From: from, To: n})
		}
	}
	for _, lines := range []string{"A:b\n", "A:b\n c\r\n", " c\n", "no\n", "\r\r\n"} {
		b := bytes.Repeat([]byte(lines), 1<<15)
		check(t, b, whole(b))
	}
	field := []byte("A:" + strings.Repeat(" b\n", 1<<18))
	check(t, field, whole(field))
	name := []byte(strings.Repeat("n", 1<<20) + ":")
	check(t, name, whole(name))
}

// P6.2: bodies of fields, in one line.
func TestBody(t *testing.T) {
	for _, c := range []struct{ text, want string }{
		{"A: b\n c\n\n", "b c"},
		{"A:", ""},
		{"A:\r\n", ""},
		{"A: \t\r\n", ""},
		{"A:b", "b"},
		{"A:b\r\n", "b"},
		{"A: \t b \t \r\n", "b"},
		{"A:\r\n b\r\n", "b"},
		{"A: b\r\n\t c\r\n", "b\t c"},
		{"A: b \r\n  c\r\n", "b   c"},
		{"A: b\r\n \r\n\t\r\n", "b"},
		{"A: \r\n \t\r\n b \r\n", "b"},
		{"A: b: c\r\n", "b: c"},
		{"A: b\rc\r\n", "b\rc"},
		{"A: b\r\r\n c\n", "b\r c"},
		{"A: b\r", "b\r"},
		{"A: \x00\xff\v\n", "\x00\xff\v"},
		{"A: \r\n", ""},
		{"A: \u00a0b\u00a0\n", "\u00a0b\u00a0"},
	} {
		b, l := of(c.text)
		if len(l) != 1 {
			t.Fatalf("Of(%q) = %v", c.text, l)
		}
		if got := Body(b, l[0]); got != c.want {
			t.Errorf("Body of %q = %q, not %q", c.text, got, c.want)
		}
	}
}

// P6.2: just the part from Body on, below To, counts.
func TestBodyOfAny(t *testing.T) {
	b := []byte("A: b\r\nc \n\n d")
	for _, c := range []struct {
		f    Field
		want string
	}{
		{Field{"", 0, 2, 6}, "b"},
		{Field{"x", -7, 2, 6}, "b"},
		{Field{"A", 99, 2, 6}, "b"},
		{Field{"A", math.MaxInt, 0, 6}, "A: b"},
		{Field{"A", 0, 0, 12}, "A: bc  d"},
		{Field{"A", 0, 2, 5}, "b\r"},
		{Field{"A", 0, 9, 10}, ""},
		{Field{"A", 0, 3, 3}, ""},
		{Field{"A", 0, 12, 12}, ""},
		{Field{"A", 0, 0, 13}, ""},
		{Field{"A", 0, 13, 13}, ""},
		{Field{"A", 0, 4, 3}, ""},
		{Field{"A", 0, -1, 4}, ""},
		{Field{"A", 0, -2, -1}, ""},
		{Field{"A", 0, 3, -1}, ""},
		{Field{"A", 0, math.MinInt, math.MaxInt}, ""},
		{Field{"A", 0, math.MaxInt, math.MinInt}, ""},
		{Field{"A", 0, 3, math.MaxInt}, ""},
	} {
		if got := Body(b, c.f); got != c.want {
			t.Errorf("Body(%v) = %q, not %q", c.f, got, c.want)
		}
	}
	if got := Body(nil, Field{}); got != "" {
		t.Errorf("Body of nothing = %q", got)
	}
	if got := Body(b[:4], Field{"A", 0, 2, 6}); got != "" {
		t.Errorf("Body behind the bytes = %q", got)
	}
}

// P6.2: the first field of a name, but for small and capital letters.
func TestFind(t *testing.T) {
	b, l := of("To: 1\nSUBJECT: 2\nsubject : 3\r\n 4\nX-@: 5\nX-`: 6\n\nCc: 7\n")
	for _, c := range []struct {
		name  string
		place int
		body  string
	}{
		{"To", 0, "1"},
		{"tO", 0, "1"},
		{"subject", 1, "2"},
		{"Subject", 1, "2"},
		{"SUBJECT", 1, "2"},
		{"x-@", 3, "5"},
		{"x-`", 4, "6"},
	} {
		if got, is := Find(l, c.name); got != l[c.place] || !is {
			t.Errorf("Find(%q) = %v, %t", c.name, got, is)
		}
		if got := Value(b, l, c.name); got != c.body {
			t.Errorf("Value(%q) = %q, not %q", c.name, got, c.body)
		}
	}
	if got := Value(b, l[2:], "SUBJECT"); got != "3 4" {
		t.Errorf("Value of the second subject = %q", got)
	}
	for _, name := range []string{"", "T", "ToO", "To ", "To:", " To", "Cc", "Sub", "ubject", "X-\xc0", "T\xef"} {
		if got, is := Find(l, name); got != (Field{}) || is {
			t.Errorf("Find(%q) = %v, %t", name, got, is)
		}
		if got := Value(b, l, name); got != "" {
			t.Errorf("Value(%q) = %q", name, got)
		}
	}
	if got, is := Find(nil, "To"); got != (Field{}) || is || Value(b, nil, "To") != "" {
		t.Errorf("Find in nothing = %v, %t", got, is)
	}
}

// P6.2: names of fields that are made by hand; texts are bytes, and just A to Z have small letters.
func TestFindOfAny(t *testing.T) {
	b := []byte("abc")
	l := []Field{{"\u212a", 0, 0, 1}, {"", 0, 1, 2}, {"\xc3\x84", 0, 2, 3}, {"k", 0, 5, 9}, {"K", 0, 0, 3}}
	for _, c := range []struct {
		name  string
		place int
		body  string
	}{{"", 1, "b"}, {"\u212a", 0, "a"}, {"K", 3, ""}, {"k", 3, ""}, {"\xc3\x84", 2, "c"}} {
		if got, is := Find(l, c.name); got != l[c.place] || !is {
			t.Errorf("Find(%q) = %v, %t", c.name, got, is)
		}
		// The first field of a name counts, be it none within the bytes.
		if got := Value(b, l, c.name); got != c.body {
			t.Errorf("Value(%q) = %q, not %q", c.name, got, c.body)
		}
	}
	if got, is := Find(l, "\xc3\xa4"); is {
		t.Errorf("Find has found %v", got)
	}
}

// P6.3: fields of some names, and all others.
func TestSome(t *testing.T) {
	b, l := of("To: 1\r\nSubject : 2\r\n\t3\r\nno field\r\nDate: 4\n\tto: 5\nto: 6\n\r\nTo: 7\r\n")
	for _, c := range []struct {
		names     []string
		some, not string
	}{
		{nil, "\r\n", "To: 1\r\nSubject : 2\r\n\t3\r\nDate: 4\n\tto: 5\nto: 6\n\r\n"},
		{[]string{}, "\r\n", "To: 1\r\nSubject : 2\r\n\t3\r\nDate: 4\n\tto: 5\nto: 6\n\r\n"},
		{[]string{"Date"}, "Date: 4\n\tto: 5\n\r\n", "To: 1\r\nSubject : 2\r\n\t3\r\nto: 6\n\r\n"},
		{[]string{"DATE"}, "Date: 4\n\tto: 5\n\r\n", "To: 1\r\nSubject : 2\r\n\t3\r\nto: 6\n\r\n"},
		{[]string{"to"}, "To: 1\r\nto: 6\n\r\n", "Subject : 2\r\n\t3\r\nDate: 4\n\tto: 5\n\r\n"},
		// Fields stand in their own order, each once.
		{[]string{"TO", "subject", "to"}, "To: 1\r\nSubject : 2\r\n\t3\r\nto: 6\n\r\n", "Date: 4\n\tto: 5\n\r\n"},
		{[]string{"date", "to", "subject"}, "To: 1\r\nSubject : 2\r\n\t3\r\nDate: 4\n\tto: 5\nto: 6\n\r\n", "\r\n"},
		{[]string{"", "T", "Cc", "no field", "Subject ", "Date:"}, "\r\n", "To: 1\r\nSubject : 2\r\n\t3\r\nDate: 4\n\tto: 5\nto: 6\n\r\n"},
	} {
		if got := string(Some(b, l, c.names, false)); got != c.some {
			t.Errorf("Some(%q) = %q, not %q", c.names, got, c.some)
		}
		if got := string(Some(b, l, c.names, true)); got != c.not {
			t.Errorf("Some but %q = %q, not %q", c.names, got, c.not)
		}
	}
}

// P6.3: a line's end behind a field that has none.
func TestSomeEnd(t *testing.T) {
	for _, c := range []struct{ text, want string }{
		{"", "\r\n"},
		{"A: b", "A: b\r\n\r\n"},
		{"A: b\n", "A: b\n\r\n"},
		{"A: b\r\n", "A: b\r\n\r\n"},
		{"A: b\r", "A: b\r\r\n\r\n"},
		{"A:", "A:\r\n\r\n"},
		{"A: b\n c", "A: b\n c\r\n\r\n"},
		{"A: b\r\nC: d", "A: b\r\nC: d\r\n\r\n"},
	} {
		b, l := of(c.text)
		if got := string(Some(b, l, nil, true)); got != c.want {
			t.Errorf("Some of %q = %q, not %q", c.text, got, c.want)
		}
	}
}

// P6.3: fields that are made by hand; those that aren't within the bytes count for nothing.
func TestSomeOfAny(t *testing.T) {
	b := []byte("ab\ncd")
	none := []Field{
		{"A", -1, 0, 3}, {"A", 0, 0, 6}, {"A", 6, 6, 6}, {"A", 3, 3, 2}, {"A", -2, 0, -1}, {"A", 1, 0, -1},
		{"A", math.MinInt, 0, math.MaxInt}, {"A", math.MaxInt, 0, math.MinInt}, {"A", 0, 0, math.MaxInt},
	}
	if got := string(Some(b, none, []string{"A"}, false)); got != "\r\n" {
		t.Errorf("Some of none = %q", got)
	}
	if got := string(Some(b, none, nil, true)); got != "\r\n" {
		t.Errorf("Some but none of none = %q", got)
	}
	for _, c := range []struct {
		f    Field
		want string
	}{
		{Field{"A", 3, 0, 5}, "cd\r\n\r\n"},
		{Field{"A", 0, 99, 3}, "ab\n\r\n"},
		{Field{"A", 0, -9, 5}, "ab\ncd\r\n\r\n"},
		{Field{"A", 2, 2, 3}, "\n\r\n"},
		// Of no bytes the end is no line feed.
		{Field{"A", 3, 3, 3}, "\r\n\r\n"},
		{Field{"A", 5, 5, 5}, "\r\n\r\n"},
	} {
		l := slices.Concat(none, []Field{c.f}, none)
		if got := string(Some(b, l, []string{"x", "a"}, false)); got != c.want {
			t.Errorf("Some of %v = %q, not %q", c.f, got, c.want)
		}
		if got := string(Some(b, l, []string{"x"}, true)); got != c.want {
			t.Errorf("Some but x of %v = %q, not %q", c.f, got, c.want)
		}
	}
	// Fields stand as they are listed, be it twice; each empty one has an end of its own.
	l := []Field{{"A", 3, 3, 5}, {"B", 0, 0, 3}, {"A", 0, 0, 0}, {"A", 3, 3, 5}, {"\xc3\x84", 0, 0, 1}}
	if got := string(Some(b, l, []string{"a", "\xc3\xa4"}, false)); got != "cd\r\n\r\ncd\r\n\r\n" {
		t.Errorf("Some of a list = %q", got)
	}
	if got := string(Some(nil, nil, nil, false)); got != "\r\n" {
		t.Errorf("Some of nothing = %q", got)
	}
	// What stands behind a list's end is none of it.
	if got := string(Some(b[:3], []Field{{"A", 0, 0, 4}}, nil, true)); got != "\r\n" {
		t.Errorf("Some behind the bytes = %q", got)
	}
}

// P6.3: of each text the fields of some names and all others are all fields, each once.
func TestSomeAndOthers(t *testing.T) {
	names := []string{"a", "X"}
	for _, text := range texts([]string{"A:b\n", "C :\r\n", " d\r\n", "x:y", "no\n", "\r\n"}, 5) {
		b, l := of(text)
		want := map[bool]string{}
		for _, f := range l {
			piece := text[f.From:f.To]
			if !strings.HasSuffix(piece, "\n") {
				piece += "\r\n"
			}
			want[f.Name != "A" && f.Name != "x"] += piece
		}
		for _, but := range []bool{false, true} {
			if got := string(Some(b, l, names, but)); got != want[but]+"\r\n" {
				t.Fatalf("Some of %q, %t: %q", text, but, got)
			}
		}
	}
}

// P6.4: fields, and what stands between, are the header.
func TestFollows(t *testing.T) {
	const text = "no\r\nA: b\r\n c\r\n\xff: d\r\n e\r\nF: g\n\r\nH: i\n"
	b, l := of(text)
	if len(l) != 2 || text[:l[0].From] != "no\r\n" || text[l[0].From:l[0].To] != "A: b\r\n c\r\n" ||
		text[l[0].To:l[1].From] != "\xff: d\r\n e\r\n" || text[l[1].From:l[1].To] != "F: g\n" {
		t.Fatalf("fields: %v", l)
	}
	for _, f := range l {
		if strings.Contains(Body(b, f), "\n") {
			t.Errorf("Body of %v: %q", f, Body(b, f))
		}
	}
}

// What is answered is new memory, and what is handed in stays as it is.
func TestNewMemory(t *testing.T) {
	given := []byte("A: b\r\nC: d.more")
	b := given[:10]
	l, _ := Of(b, whole(b))
	names := []string{"c", "x"}
	some := Some(b, l, names, false)
	body := Body(b, l[0])
	if string(given) != "A: b\r\nC: d.more" || !slices.Equal(names, []string{"c", "x"}) || !slices.Equal(l, []Field{{"A", 0, 2, 6}, {"C", 6, 8, 10}}) {
		t.Fatalf("what is handed in is changed: %q, %q, %v", given, names, l)
	}
	copy(given, "xxxxxxxxxxxxxxx")
	if string(some) != "C: d\r\n\r\n" || body != "b" || l[0].Name != "A" {
		t.Errorf("answers share their bytes: %q, %q, %v", some, body, l)
	}
	copy(b, "A: b\r\nC: d")
	l[0].Name = "Z"
	if again, _ := Of(b, whole(b)); again[0].Name != "A" {
		t.Errorf("a list that was answered is kept: %v", again)
	}
}
