package charset

import (
	"bytes"
	"slices"
	"strings"
	"testing"

	"letterbox/api"
)

const mostCharacter = 1114111

// asciis, latins and unicodes are the names of each charset; allNames are all of them.
var (
	asciis   = []string{"us-ascii", "ascii"}
	latins   = []string{"iso-8859-1", "latin1"}
	unicodes = []string{"utf-8", "utf8"}
	allNames = slices.Concat(asciis, latins, unicodes)
)

// unknowns are names of no charset that is known.
var unknowns = []string{
	"", " ", "utf", "utf-", "utf_8", "utf-8 ", " utf-8", "\tutf-8", "utf-8\r\n", "utf-8\x00", "\x00utf-8", "\"utf-8\"",
	"utf-8*en", "utf--8", "utf-16", "utf-7", "utf-88", "utf80", "8", "unicode", "us", "us-", "usascii", "us_ascii", "us-ascii7",
	"us-ascii,utf-8", "ascii8", "asci", "ansi_x3.4-1968", "iso-8859", "iso-8859-", "iso8859-1", "iso_8859-1", "iso-8859-15",
	"iso-8859-2", "iso-8859-01", "latin", "latin-1", "latin2", "latin11", "l1", "windows-1252", "binary", "koi8-r",
	"u\u017f-ascii", "a\u017fcii", "i\u017fo-8859-1", "l\u0430tin1", "latin\u00b9", "la\u0165in1", "utf\u20118", "utf\uff0d8", "utf-8\xff", "\xd5tf-8", "UTF\r8",
}

// isOf tells whether a name is one of some, small and capital letters apart.
func isOf(name string, names []string) bool {
	small := []byte(name)
	for i, c := range small {
		if strings.IndexByte("ABCDEFGHIJKLMNOPQRSTUVWXYZ", c) >= 0 {
			small[i] = c + 32
		}
	}
	return slices.Contains(names, string(small))
}

// encoded are a character's bytes in UTF-8: as few as may be.
func encoded(c int) string {
	more := func(shift int) byte { return byte(0x80 + c>>shift%64) }
	switch {
	case c < 1<<7:
		return string([]byte{byte(c)})
	case c < 1<<11:
		return string([]byte{byte(0xC0 + c>>6), more(0)})
	case c < 1<<16:
		return string([]byte{byte(0xE0 + c>>12), more(6), more(0)})
	}
	return string([]byte{byte(0xF0 + c>>18), more(12), more(6), more(0)})
}

// surrogate tells whether a number is one that no character has.
func surrogate(c int) bool { return c >= 55296 && c <= 57343 }

// character is the one that bytes begin with in UTF-8, and how many bytes it has; 0: they begin with none.
func character(b []byte) (c, size int) {
	if len(b) == 0 {
		return 0, 0
	}
	lead := int(b[0])
	least := 0
	switch {
	case lead < 0x80:
		size, c, least = 1, lead, 0
	case lead>>5 == 0b110:
		size, c, least = 2, lead-0xC0, 1<<7
	case lead>>4 == 0b1110:
		size, c, least = 3, lead-0xE0, 1<<11
	case lead>>3 == 0b11110:
		size, c, least = 4, lead-0xF0, 1<<16
	default:
		return 0, 0
	}
	if len(b) < size {
		return 0, 0
	}
	for _, more := range b[1:size] {
		if more>>6 != 0b10 {
			return 0, 0
		}
		c = c*64 + int(more)%64
	}
	if c < least || c > mostCharacter || surrogate(c) {
		return 0, 0
	}
	return c, size
}

// characters are those of bytes in UTF-8; false: they aren't.
func characters(b []byte) ([]int, bool) {
	var all []int
	for len(b) > 0 {
		c, size := character(b)
		if size == 0 {
			return nil, false
		}
		all = append(all, c)
		b = b[size:]
	}
	return all, true
}

// wantedText is what Text should answer.
func wantedText(name string, b []byte) (string, api.Errno) {
	_, whole := characters(b)
	most := 127
	switch {
	case isOf(name, unicodes) && whole:
		return string(b), api.OK
	case isOf(name, latins):
		most = 255
	case !isOf(name, asciis):
		return "", api.ErrCharset
	}
	var text strings.Builder
	for _, c := range b {
		if int(c) > most {
			return "", api.ErrCharset
		}
		text.WriteString(encoded(int(c)))
	}
	return text.String(), api.OK
}

// wantedBytes is what Bytes should answer.
func wantedBytes(name string, s string) ([]byte, api.Errno) {
	all, whole := characters([]byte(s))
	most := 127
	switch {
	case !whole:
		return nil, api.ErrCharset
	case isOf(name, unicodes):
		return []byte(s), api.OK
	case isOf(name, latins):
		most = 255
	case !isOf(name, asciis):
		return nil, api.ErrCharset
	}
	var b []byte
	for _, c := range all {
		if c > most {
			return nil, api.ErrCharset
		}
		b = append(b, byte(c))
	}
	return b, api.OK
}

// checkText holds Text of bytes against what is wanted, and what is a text against its bytes.
func checkText(t *testing.T, name string, b []byte) {
	t.Helper()
	was := string(b)
	want, wantErr := wantedText(name, b)
	got, err := Text(name, b)
	if got != want || err != wantErr {
		t.Fatalf("Text(%q, %q) = %q, %d, not %q, %d", name, b, got, err, want, wantErr)
	}
	if string(b) != was {
		t.Fatalf("Text(%q, %q) changed the bytes to %q", name, was, b)
	}
	if err != api.OK {
		return
	}
	if back, err := Bytes(name, got); !bytes.Equal(back, b) || err != api.OK {
		t.Fatalf("%q in %q is %q, %d again", b, name, back, err)
	}
}

// checkBytes holds Bytes of a text against what is wanted, and what are bytes against their text.
func checkBytes(t *testing.T, name string, s string) {
	t.Helper()
	want, wantErr := wantedBytes(name, s)
	got, err := Bytes(name, s)
	if !bytes.Equal(got, want) || err != wantErr {
		t.Fatalf("Bytes(%q, %q) = %q, %d, not %q, %d", name, s, got, err, want, wantErr)
	}
	if err != api.OK {
		if got != nil {
			t.Fatalf("Bytes(%q, %q) = %q beside an error", name, s, got)
		}
		return
	}
	if back, err := Text(name, got); back != s || err != api.OK {
		t.Fatalf("%q in %q is %q, %d again", s, name, back, err)
	}
}

// check holds both ways for the same bytes, in one charset of each kind.
func check(t *testing.T, b []byte) {
	t.Helper()
	for _, name := range []string{"us-ascii", "latin1", "utf-8"} {
		checkText(t, name, b)
		checkBytes(t, name, string(b))
	}
}

// cases are all ways to write a name in small and capital letters.
func cases(name string) []string {
	all := []string{""}
	for i := range len(name) {
		var next []string
		for _, front := range all {
			next = append(next, front+name[i:i+1])
			if name[i] >= 'a' && name[i] <= 'z' {
				next = append(next, front+string([]byte{name[i] - 32}))
			}
		}
		all = next
	}
	return all
}

// P8.1: the names, in small and capital letters.
func TestKnown(t *testing.T) {
	for _, name := range allNames {
		for _, written := range cases(name) {
			if !Known(written) {
				t.Errorf("%q isn't known", written)
			}
			if s, err := Text(written, []byte("a")); s != "a" || err != api.OK {
				t.Errorf("Text(%q, a) = %q, %d", written, s, err)
			}
			if b, err := Bytes(written, "a"); string(b) != "a" || err != api.OK {
				t.Errorf("Bytes(%q, a) = %q, %d", written, b, err)
			}
		}
	}
}

// P8.1, P8.2: names of none have neither texts nor bytes, not even of nothing.
func TestUnknown(t *testing.T) {
	all := append(slices.Clone(unknowns), strings.Repeat("utf-8", 1000), strings.Repeat("A", 100000))
	for _, name := range all {
		if Known(name) {
			t.Errorf("%q is known", name)
		}
		for _, s := range []string{"", "a", "\xff", "\u00e9"} {
			if got, err := Text(name, []byte(s)); got != "" || err != api.ErrCharset {
				t.Errorf("Text(%q, %q) = %q, %d", name, s, got, err)
			}
			if got, err := Bytes(name, s); got != nil || err != api.ErrCharset {
				t.Errorf("Bytes(%q, %q) = %q, %d", name, s, got, err)
			}
		}
	}
}

// P8.1: names that are known but for a byte: another one, one more, or one less.
func TestAlmostKnown(t *testing.T) {
	hold := func(name string) {
		if Known(name) != isOf(name, allNames) {
			t.Errorf("Known(%q) = %t", name, Known(name))
		}
	}
	for _, name := range allNames {
		for at := range len(name) + 1 {
			for i := range 256 {
				hold(name[:at] + string([]byte{byte(i)}) + name[at:])
				if at < len(name) {
					hold(name[:at] + string([]byte{byte(i)}) + name[at+1:])
				}
			}
			if at < len(name) {
				hold(name[:at] + name[at+1:])
			}
		}
	}
}

// P8.1: texts of bytes, as they are written out.
func TestText(t *testing.T) {
	for _, c := range []struct {
		name string
		b    []byte
		want string
	}{
		{"latin1", []byte{233}, "\xc3\xa9"},
		{"ISO-8859-1", []byte{127, 128, 191, 192, 255}, "\x7f\xc2\x80\xc2\xbf\xc3\x80\xc3\xbf"},
		{"latin1", []byte("\xc3\xa9"), "\xc3\x83\xc2\xa9"},
		{"us-ascii", []byte("a b\r\n\x00\x7f"), "a b\r\n\x00\x7f"},
		{"utf8", []byte("\xc3\xa9"), "\xc3\xa9"},
		{"UTF-8", []byte("\xef\xbb\xbfa\xe2\x82\xac\xf0\x9f\x93\xab"), "\xef\xbb\xbfa\xe2\x82\xac\xf0\x9f\x93\xab"},
		{"utf-8", []byte("\xef\xbf\xbd\xef\xbf\xbe\xef\xbf\xbf"), "\xef\xbf\xbd\xef\xbf\xbe\xef\xbf\xbf"},
		{"utf-8", []byte("e\xcc\x81"), "e\xcc\x81"},
		{"ascii", nil, ""},
		{"latin1", []byte{}, ""},
		{"utf-8", nil, ""},
	} {
		if got, err := Text(c.name, c.b); got != c.want || err != api.OK {
			t.Errorf("Text(%q, %q) = %q, %d, not %q", c.name, c.b, got, err, c.want)
		}
		checkText(t, c.name, c.b)
	}
}

// P8.1: bytes that aren't a charset's have no text, whatever stands ahead of them and behind.
func TestTextNone(t *testing.T) {
	for _, c := range []struct{ name, b string }{
		{"us-ascii", "\x80"},
		{"ascii", "abc\xff"},
		{"ascii", "\xc3\xa9"},
		{"utf-8", "\x80"},
		{"utf-8", "\xbf"},
		{"utf-8", "\xc0\x80"},
		{"utf-8", "\xc1\xbf"},
		{"utf-8", "\xe0\x9f\xbf"},
		{"utf-8", "\xf0\x8f\xbf\xbf"},
		{"utf-8", "\xed\xa0\x80"},
		{"utf-8", "\xed\xbf\xbf"},
		{"utf-8", "\xed\xa1\x8c\xed\xbe\xb4"},
		{"utf-8", "\xf4\x90\x80\x80"},
		{"utf-8", "\xf5\x80\x80\x80"},
		{"utf-8", "\xf8\x88\x80\x80\x80"},
		{"utf-8", "\xfc\x84\x80\x80\x80\x80"},
		{"utf-8", "\xfe"},
		{"utf-8", "\xff"},
		{"utf-8", "\xc3"},
		{"utf-8", "\xe2\x82"},
		{"utf-8", "\xf0\x9f\x93"},
		{"utf-8", "\xc3a"},
		{"utf-8", "\xe2\x82a"},
		{"utf-8", "\xc3\xa9\xa9"},
		{"utf-8", "a\xe9b"},
		{"utf-8", "\xef\xbf\xbd\xff"},
	} {
		for _, b := range []string{c.b, "ab" + c.b, c.b + "cd", "ab" + c.b + "cd"} {
			if got, err := Text(c.name, []byte(b)); got != "" || err != api.ErrCharset {
				t.Errorf("Text(%q, %q) = %q, %d", c.name, b, got, err)
			}
			// What is no UTF-8 is no text of any charset.
			for _, name := range allNames {
				if got, err := Bytes(name, b); isOf(c.name, unicodes) && (got != nil || err != api.ErrCharset) {
					t.Errorf("Bytes(%q, %q) = %q, %d", name, b, got, err)
				}
			}
		}
	}
}

// P8.2: bytes of texts, as they are written out.
func TestBytes(t *testing.T) {
	for _, c := range []struct {
		name, s string
		want    []byte
	}{
		{"latin1", "\u00e9", []byte{233}},
		{"ISO-8859-1", "\u007f\u0080\u00bf\u00c0\u00ff", []byte{127, 128, 191, 192, 255}},
		{"US-ASCII", "a b\r\n\x00\x7f", []byte("a b\r\n\x00\x7f")},
		{"utf8", "\u00e9", []byte{195, 169}},
		{"UTF-8", "\ufeff\u20ac\ufffd\U0010ffff", []byte("\xef\xbb\xbf\xe2\x82\xac\xef\xbf\xbd\xf4\x8f\xbf\xbf")},
		{"ascii", "", nil},
		{"latin1", "", nil},
		{"utf-8", "", nil},
	} {
		if got, err := Bytes(c.name, c.s); !bytes.Equal(got, c.want) || err != api.OK {
			t.Errorf("Bytes(%q, %q) = %d, %d, not %d", c.name, c.s, got, err, c.want)
		}
		checkBytes(t, c.name, c.s)
	}
}

// P8.2: characters that aren't in a charset, and that nothing stands in for.
func TestBytesNone(t *testing.T) {
	for _, c := range []struct{ name, s string }{
		{"ascii", "\u0080"},
		{"us-ascii", "\u00e9"},
		{"us-ascii", "\u00ff"},
		{"ascii", "\u0141"},
		{"ascii", "\ufffd"},
		{"latin1", "\u0100"},
		{"iso-8859-1", "\u0141"},
		{"latin1", "e\u0301"},
		{"latin1", "\u20ac"},
		{"latin1", "\u2019"},
		{"latin1", "\ufeff"},
		{"latin1", "\ufffd"},
		{"latin1", "\U00010041"},
		{"latin1", "\U0010ffff"},
	} {
		for _, s := range []string{c.s, "ab" + c.s, c.s + "cd", "ab" + c.s + "cd"} {
			if got, err := Bytes(c.name, s); got != nil || err != api.ErrCharset {
				t.Errorf("Bytes(%q, %q) = %q, %d", c.name, s, got, err)
			}
		}
	}
}

// P8.1 to P8.3: each character there is, and each number beside them that none has.
func TestEachCharacter(t *testing.T) {
	for c := range mostCharacter + 5000 {
		s := encoded(c)
		wantErr := api.OK
		if surrogate(c) || c > mostCharacter {
			wantErr = api.ErrCharset
		}
		if got, err := Text("utf-8", []byte(s)); err != wantErr || err == api.OK && got != s {
			t.Fatalf("Text of character %d: %q, %d", c, got, err)
		}
		if got, err := Bytes("utf-8", s); err != wantErr || err == api.OK && string(got) != s {
			t.Fatalf("Bytes of character %d: %q, %d", c, got, err)
		}
		for _, narrow := range []struct {
			name string
			most int
		}{{"ascii", 127}, {"latin1", 255}} {
			got, err := Bytes(narrow.name, s)
			if is := c <= narrow.most; (err == api.OK) != is || is && !bytes.Equal(got, []byte{byte(c)}) {
				t.Fatalf("Bytes of character %d in %s: %d, %d", c, narrow.name, got, err)
			}
		}
	}
}

// P8.1 to P8.3: each one and two bytes, by each name.
func TestShortBytes(t *testing.T) {
	for _, name := range allNames {
		for a := range 256 {
			checkText(t, name, []byte{byte(a)})
			checkBytes(t, name, string([]byte{byte(a)}))
			for b := range 256 {
				checkText(t, name, []byte{byte(a), byte(b)})
				checkBytes(t, name, string([]byte{byte(a), byte(b)}))
			}
		}
	}
}

// P8.1 to P8.3: three and four bytes, each at the edges of what may stand there.
func TestLongerBytes(t *testing.T) {
	edges := []byte{0, 'a', 0x7f, 0x80, 0x8f, 0x90, 0x9f, 0xa0, 0xbf, 0xc0, 0xc2, 0xe0, 0xf0, 0xff}
	for lead := 0xc0; lead < 256; lead++ {
		for second := range 256 {
			for _, third := range edges {
				b := []byte{byte(lead), byte(second), third}
				checkText(t, "utf-8", b)
				checkBytes(t, "utf-8", string(b))
				for _, fourth := range edges {
					checkText(t, "utf-8", append(b[:3:3], fourth))
				}
			}
		}
	}
}

// P8.1 to P8.3: all short texts of characters, and of pieces of them.
func TestShortTexts(t *testing.T) {
	pieces := []string{"a", "\x00", "\x7f", "\xc2", "\x80", "\xbf", "\xc3\xbf", "\u0100", "\xe2\x82", "\ufffd", "\xed\xa0\x80", "\U0001f4eb", "\xff"}
	all := []string{""}
	for range 4 {
		next := []string{""}
		for _, text := range all {
			for _, piece := range pieces {
				next = append(next, text+piece)
			}
		}
		all = next
	}
	for _, text := range all {
		check(t, []byte(text))
	}
}

// P8.1 to P8.3: each byte in each place of texts.
func TestEachByteInEachPlace(t *testing.T) {
	for _, text := range []string{"abc def\r\n", "\u00e9\u00ff\u0080a", "a\u20ac\ufffdb", "\U0010ffff\U00010000"} {
		for at := range len(text) {
			for i := range 256 {
				b := []byte(text)
				b[at] = byte(i)
				check(t, b)
			}
		}
	}
}

// P8.1 to P8.3: long texts, whole, cut, and broken at their end.
func TestLongTexts(t *testing.T) {
	for _, piece := range []string{"a", "\u00e9", "a\u00e9", "\u20ac", "\U0001f4ebz"} {
		long := strings.Repeat(piece, 30000)
		check(t, []byte(long))
		check(t, []byte(long[:len(long)-1]))
		check(t, []byte(long+"\xff"))
		check(t, []byte(long+"\u0100"))
	}
}

// P8.2: bytes are new ones each time: whoever changes them changes nothing else.
func TestNewMemory(t *testing.T) {
	for _, name := range allNames {
		const s = "abc"
		first, _ := Bytes(name, s)
		second, _ := Bytes(name, s)
		for i := range first[:cap(first)] {
			first[:cap(first)][i] = 'x'
		}
		if third, _ := Bytes(name, s); s != "abc" || string(second) != "abc" || string(third) != "abc" {
			t.Errorf("%s: %q, %q, %q", name, s, second, third)
		}
		b := []byte("abc")
		got, _ := Text(name, b)
		copy(b, "xyz")
		if got != "abc" {
			t.Errorf("%s: a text that became %q", name, got)
		}
	}
}
