package lines

import (
	"bytes"
	"math"
	"regexp"
	"slices"
	"strings"
	"testing"

	"letterbox/api"
)

// allBytes are the bytes 0 to 255, in order.
func allBytes() []byte {
	all := make([]byte, 256)
	for i := range all {
		all[i] = byte(i)
	}
	return all
}

// mixed are n bytes that don't repeat soon, with many ends of lines among them.
func mixed(n int) []byte {
	b := make([]byte, n)
	state := uint32(n) + 1
	for i := range b {
		state = state*1664525 + 1013904223
		b[i] = "\r\n\r\n a:\x00\xff"[state>>24%9]
	}
	return b
}

// texts are all texts of at most so many of the letters.
func texts(letters string, most int) []string {
	all := []string{""}
	from := 0
	for range most {
		to := len(all)
		for _, text := range all[from:to] {
			for i := range len(letters) {
				all = append(all, text+letters[i:i+1])
			}
		}
		from = to
	}
	return all
}

var lineForm = regexp.MustCompile(`(?s)^(.*?)(\r?\n)?$`)

// wanted are the lines that Of should answer, by the form of each.
func wanted(b []byte, s api.Span) []Line {
	var all []Line
	if s.From < 0 || s.From > s.To || s.To > len(b) {
		return all
	}
	at := s.From
	for _, line := range bytes.SplitAfter(b[s.From:s.To], []byte("\n")) {
		if len(line) == 0 {
			continue
		}
		found := lineForm.FindSubmatchIndex(line)
		all = append(all, Line{at, at + found[3], at + len(line)})
		at += len(line)
	}
	return all
}

// check holds Of and Count of a part against what is wanted, and what follows.
func check(t *testing.T, b []byte, s api.Span) {
	t.Helper()
	want := wanted(b, s)
	got := Of(b, s)
	if !slices.Equal(got, want) {
		t.Fatalf("Of(%q, %v) = %v, not %v", b, s, got, want)
	}
	if n := Count(b, s); n != len(want) {
		t.Fatalf("Count(%q, %v) = %d, not %d", b, s, n, len(want))
	}
	if Within(s, len(b)) {
		follows(t, b, s, got)
	}
}

// follows holds lines against P5.3.
func follows(t *testing.T, b []byte, s api.Span, l []Line) {
	t.Helper()
	at := s.From
	for _, line := range l {
		if line.From != at || line.To < at || line.Next < line.To {
			t.Fatalf("of %q, %v: %v doesn't stand behind %d", b, s, line, at)
		}
		text := Text(b, line)
		if strings.Contains(text, "\n") {
			t.Fatalf("of %q, %v: %q has a line feed", b, s, text)
		}
		switch end := string(b[line.To:line.Next]); end {
		case "\n", "\r\n":
		case "":
			if line.Next != s.To {
				t.Fatalf("of %q, %v: %v has no end", b, s, line)
			}
		default:
			t.Fatalf("of %q, %v: the end of %v is %q", b, s, line, end)
		}
		at = line.Next
	}
	if at != s.To {
		t.Fatalf("of %q, %v: lines end at %d", b, s, at)
	}
}

// whole is all of bytes.
func whole(b []byte) api.Span { return api.Span{From: 0, To: len(b)} }

// P5.1: parts that stand within so many bytes, and those that don't.
func TestWithin(t *testing.T) {
	for _, c := range []struct {
		from, to, n int
		want        bool
	}{
		{0, 0, 0, true},
		{0, 1, 1, true},
		{0, 0, 1, true},
		{1, 1, 1, true},
		{2, 3, 5, true},
		{3, 3, 3, true},
		{0, 1, 0, false},
		{1, 1, 0, false},
		{2, 1, 5, false},
		{1, 0, 5, false},
		{-1, 0, 5, false},
		{-1, -1, 5, false},
		{-2, -1, 5, false},
		{0, -1, 5, false},
		{0, 6, 5, false},
		{6, 6, 5, false},
		{0, 0, -1, false},
		{-3, -2, -1, false},
		{0, math.MaxInt, math.MaxInt, true},
		{math.MaxInt, math.MaxInt, math.MaxInt, true},
		{math.MaxInt, math.MaxInt, 5, false},
		{math.MinInt, math.MaxInt, math.MaxInt, false},
		{math.MinInt, math.MinInt, 5, false},
		{math.MaxInt, math.MinInt, 5, false},
		{0, 0, math.MinInt, false},
	} {
		if got := Within(api.Span{From: c.from, To: c.to}, c.n); got != c.want {
			t.Errorf("Within({%d, %d}, %d) = %v", c.from, c.to, c.n, got)
		}
	}
	for from := -3; from < 6; from++ {
		for to := -3; to < 6; to++ {
			for n := -3; n < 6; n++ {
				// A part is there, if each of its two places is one ahead of, between or behind n bytes.
				want := n >= 0 && slices.Contains([]int{0, 1, 2, 3, 4, 5}[:n+1], from) && slices.Contains([]int{0, 1, 2, 3, 4, 5}[:n+1], to) && to-from >= 0
				if got := Within(api.Span{From: from, To: to}, n); got != want {
					t.Errorf("Within({%d, %d}, %d) = %v", from, to, n, got)
				}
			}
		}
	}
}

// P5.1: lines of all of a text.
func TestOf(t *testing.T) {
	for _, c := range []struct {
		text string
		want []Line
	}{
		{"a\r\nb", []Line{{0, 1, 3}, {3, 4, 4}}},
		{"", nil},
		{"a", []Line{{0, 1, 1}}},
		{"\n", []Line{{0, 0, 1}}},
		{"\r\n", []Line{{0, 0, 2}}},
		{"\r", []Line{{0, 1, 1}}},
		{"a\n", []Line{{0, 1, 2}}},
		{"a\r\n", []Line{{0, 1, 3}}},
		{"a\r", []Line{{0, 2, 2}}},
		{"\n\n", []Line{{0, 0, 1}, {1, 1, 2}}},
		{"\n\r\n", []Line{{0, 0, 1}, {1, 1, 3}}},
		{"\r\n\r", []Line{{0, 0, 2}, {2, 3, 3}}},
		{"\n\r", []Line{{0, 0, 1}, {1, 2, 2}}},
		{"\r\r\n", []Line{{0, 1, 3}}},
		{"a\r\r\nb", []Line{{0, 2, 4}, {4, 5, 5}}},
		{"a\rb\nc", []Line{{0, 3, 4}, {4, 5, 5}}},
		{"a\r \nc", []Line{{0, 3, 4}, {4, 5, 5}}},
		{"a\n\nb\n", []Line{{0, 1, 2}, {2, 2, 3}, {3, 4, 5}}},
		{" \t\n\x00\v\f\u0085\u2028\n", []Line{{0, 2, 3}, {3, 11, 12}}},
	} {
		b := []byte(c.text)
		if got := Of(b, whole(b)); !slices.Equal(got, c.want) {
			t.Errorf("Of(%q) = %v, not %v", c.text, got, c.want)
		}
		if got := Count(b, whole(b)); got != len(c.want) {
			t.Errorf("Count(%q) = %d, not %d", c.text, got, len(c.want))
		}
	}
}

// P5.1: a part's lines begin and end with it, whatever stands around it.
func TestOfPart(t *testing.T) {
	b := []byte("ab\r\ncd\n\r\n")
	for _, c := range []struct {
		from, to int
		want     []Line
	}{
		{0, 9, []Line{{0, 2, 4}, {4, 6, 7}, {7, 7, 9}}},
		{0, 2, []Line{{0, 2, 2}}},
		{0, 3, []Line{{0, 3, 3}}},
		{0, 4, []Line{{0, 2, 4}}},
		{0, 5, []Line{{0, 2, 4}, {4, 5, 5}}},
		{1, 3, []Line{{1, 3, 3}}},
		{2, 4, []Line{{2, 2, 4}}},
		{2, 3, []Line{{2, 3, 3}}},
		{3, 4, []Line{{3, 3, 4}}},
		{3, 3, nil},
		{4, 4, nil},
		{0, 0, nil},
		{9, 9, nil},
		{6, 9, []Line{{6, 6, 7}, {7, 7, 9}}},
		{7, 8, []Line{{7, 8, 8}}},
		{8, 9, []Line{{8, 8, 9}}},
		{-1, 9, nil},
		{-1, 0, nil},
		{0, 10, nil},
		{9, 10, nil},
		{10, 10, nil},
		{5, 4, nil},
		{0, -1, nil},
		{-5, -3, nil},
		{0, math.MaxInt, nil},
		{math.MinInt, math.MaxInt, nil},
		{math.MaxInt, math.MinInt, nil},
		{math.MaxInt, math.MaxInt, nil},
	} {
		s := api.Span{From: c.from, To: c.to}
		if got := Of(b, s); !slices.Equal(got, c.want) {
			t.Errorf("Of(%v) = %v, not %v", s, got, c.want)
		}
		if got := Count(b, s); got != len(c.want) {
			t.Errorf("Count(%v) = %d, not %d", s, got, len(c.want))
		}
	}
	if Of(nil, api.Span{}) != nil || Count(nil, api.Span{}) != 0 {
		t.Error("nothing has lines")
	}
	// What stands behind a list's end is none of it.
	if s := (api.Span{From: 0, To: 4}); Of(b[:3], s) != nil || Count(b[:3], s) != 0 {
		t.Error("a part behind the bytes has lines")
	}
}

// P5.1, P5.3: all parts of all short texts.
func TestAllShort(t *testing.T) {
	for _, text := range texts("\r\na", 6) {
		b := []byte(text)
		for from := -1; from < len(b)+2; from++ {
			for to := -1; to < len(b)+2; to++ {
				check(t, b, api.Span{From: from, To: to})
			}
		}
	}
}

// P5.1: no byte but a line feed ends a line, and none but a carriage return goes with it.
func TestEachByte(t *testing.T) {
	for _, c := range allBytes() {
		for _, row := range [][]byte{{c}, {c, '\n'}, {'\n', c}, {'\r', c}, {c, '\r', '\n'}, {'\r', c, '\n'}, {'a', c, 'b'}, {'\r', '\n', c, '\n'}} {
			check(t, row, whole(row))
		}
	}
	b := allBytes()
	check(t, b, whole(b))
}

// P5.1, P5.3: long texts.
func TestLong(t *testing.T) {
	for _, n := range []int{100, 999, 1 << 16} {
		b := mixed(n)
		check(t, b, whole(b))
		check(t, b, api.Span{From: n / 3, To: n/3 + n/2})
	}
	feeds := bytes.Repeat([]byte("\n"), 1<<16)
	check(t, feeds, whole(feeds))
	ends := bytes.Repeat([]byte("\r\n"), 1<<16)
	check(t, ends, whole(ends))
	one := bytes.Repeat([]byte("\r"), 1<<20)
	check(t, one, whole(one))
}

// P5.2: what stands from From on, below To, wherever the next line begins.
func TestText(t *testing.T) {
	b := []byte("ab\r\ncd\n")
	for _, c := range []struct {
		line Line
		want string
	}{
		{Line{0, 2, 4}, "ab"},
		{Line{4, 6, 7}, "cd"},
		{Line{0, 7, 7}, "ab\r\ncd\n"},
		{Line{2, 4, 4}, "\r\n"},
		{Line{6, 7, 0}, "\n"},
		{Line{1, 2, -9}, "b"},
		{Line{1, 2, math.MaxInt}, "b"},
		{Line{1, 2, math.MinInt}, "b"},
		{Line{0, 0, 0}, ""},
		{Line{7, 7, 7}, ""},
		{Line{3, 3, 4}, ""},
		{Line{0, 8, 8}, ""},
		{Line{7, 8, 8}, ""},
		{Line{8, 8, 8}, ""},
		{Line{-1, 2, 4}, ""},
		{Line{-2, -1, 4}, ""},
		{Line{2, 1, 4}, ""},
		{Line{0, -1, 4}, ""},
		{Line{0, math.MaxInt, 4}, ""},
		{Line{math.MinInt, 2, 4}, ""},
		{Line{math.MaxInt, math.MinInt, 4}, ""},
	} {
		if got := Text(b, c.line); got != c.want {
			t.Errorf("Text(%v) = %q, not %q", c.line, got, c.want)
		}
	}
	if got := Text(nil, Line{0, 0, 0}); got != "" {
		t.Errorf("Text of nothing = %q", got)
	}
	if got := Text(b[:2], Line{0, 3, 4}); got != "" {
		t.Errorf("Text behind the bytes = %q", got)
	}
	for _, c := range allBytes() {
		if got := Text([]byte{0, c, 0}, Line{1, 2, 3}); got != string([]byte{c}) {
			t.Errorf("Text of %d = %q", c, got)
		}
	}
}

// P5.2: the first line without text.
func TestEmpty(t *testing.T) {
	for _, c := range []struct {
		l    []Line
		want int
	}{
		{nil, -1},
		{[]Line{}, -1},
		{[]Line{{0, 0, 1}}, 0},
		{[]Line{{0, 0, 0}}, 0},
		{[]Line{{0, 1, 1}}, -1},
		{[]Line{{0, 1, 2}, {2, 2, 3}, {3, 3, 4}}, 1},
		{[]Line{{0, 1, 2}, {2, 3, 3}}, -1},
		{[]Line{{0, 1, 2}, {2, 3, 4}, {4, 4, 6}}, 2},
		// Just these two places are held against each other, whatever they are.
		{[]Line{{1, 0, 0}, {0, 1, 0}, {-7, 7, 7}, {-7, -7, 0}}, 3},
		{[]Line{{math.MinInt, math.MaxInt, 0}, {math.MaxInt, math.MaxInt, 0}}, 1},
		{[]Line{{2, 1, 1}, {3, 1, 3}}, -1},
	} {
		if got := Empty(c.l); got != c.want {
			t.Errorf("Empty(%v) = %d, not %d", c.l, got, c.want)
		}
	}
	for text, want := range map[string]int{"a\r\n\r\nb": 1, "a\n\nb": 1, "\r\n": 0, "\n": 0, "": -1, "a": -1, "a\n": -1, "\r": -1, " \n": -1, "a\n\r": -1, "\r\r\n\n": 1} {
		b := []byte(text)
		if got := Empty(Of(b, whole(b))); got != want {
			t.Errorf("Empty of the lines of %q = %d, not %d", text, got, want)
		}
	}
}

// P5.3: lines, one behind the other, with their ends, are the part.
func TestFollows(t *testing.T) {
	for _, text := range []string{"", "\n", "a", "a\r\nb", "A: b\n c\n\nbody\r\n\r\n", string(allBytes()), string(mixed(500))} {
		b := []byte(text)
		all := ""
		for _, line := range Of(b, whole(b)) {
			all += Text(b, line) + string(b[line.To:line.Next])
		}
		if all != text {
			t.Errorf("the lines of %q are %q", text, all)
		}
		follows(t, b, whole(b), Of(b, whole(b)))
	}
}

// What is answered is new memory, and what is handed in stays as it is.
func TestNewMemory(t *testing.T) {
	b := []byte("ab\r\ncd\nmore")[:7]
	l := Of(b, whole(b))
	l[0] = Line{9, 9, 9}
	if got := Of(b, whole(b)); got[0] != (Line{0, 2, 4}) {
		t.Errorf("a list that was answered is kept: %v", got)
	}
	text := Text(b, Line{0, 2, 4})
	b[0] = 'x'
	if text != "ab" {
		t.Errorf("a text shares its bytes: %q", text)
	}
	given := []Line{{0, 1, 2}, {2, 2, 3}}
	Empty(given)
	if !slices.Equal(given, []Line{{0, 1, 2}, {2, 2, 3}}) || string(b[:11]) != "xb\r\ncd\nmore" {
		t.Error("what is handed in is changed")
	}
}
