package qp

import (
	"bytes"
	"mime/quotedprintable"
	"regexp"
	"strconv"
	"strings"
	"testing"
)

// allBytes are the bytes 0 to 255, in order.
func allBytes() []byte {
	all := make([]byte, 256)
	for i := range all {
		all[i] = byte(i)
	}
	return all
}

// mixed are n bytes that don't repeat soon.
func mixed(n int) []byte {
	b := make([]byte, n)
	state := uint32(n) + 1
	for i := range b {
		state = state*1664525 + 1013904223
		b[i] = byte(state >> 24)
	}
	return b
}

var (
	lineForm = regexp.MustCompile(`^((?:[\t !-<>-~]|=[0-9A-Fa-f]{2})*?)(=?)[\t ]*(\r?\n)?$`)
	pairForm = regexp.MustCompile(`=..`)
)

// wanted is what Decode should answer, by the form of each line.
func wanted(text string) (string, bool) {
	all := ""
	for _, line := range strings.SplitAfter(text, "\n") {
		found := lineForm.FindStringSubmatch(line)
		if found == nil {
			return "", false
		}
		all += pairForm.ReplaceAllStringFunc(found[1], func(pair string) string {
			n, _ := strconv.ParseUint(pair[1:], 16, 8)
			return string([]byte{byte(n)})
		})
		if found[2] == "" {
			all += found[3]
		}
	}
	return all, true
}

// check holds Decode of a text against what is wanted.
func check(t *testing.T, text string) {
	t.Helper()
	want, whole := wanted(text)
	if got, is := Decode([]byte(text)); string(got) != want || is != whole {
		t.Fatalf("Decode(%q) = %q, %t, not %q, %t", text, got, is, want, whole)
	}
}

// P3.1: texts that are whole.
func TestDecode(t *testing.T) {
	for _, c := range []struct{ text, want string }{
		{"", ""},
		{"a=3D=\nb", "a=b"},
		{"a=3D=\r\nb", "a=b"},
		{"plain", "plain"},
		{" !\"#<>~", " !\"#<>~"},
		// Digits, small and capital, and what they tell.
		{"=00=09=0A=0D=20=7F=80=FF", "\x00\t\n\r \x7f\x80\xff"},
		{"=ab=cd=ef=AB=CD=EF=aB=Cd", "\xab\xcd\xef\xab\xcd\xef\xab\xcd"},
		{"=3D3D", "=3D"},
		{"=3D=33=44", "=3D"},
		{"=411", "A1"},
		// Ends of lines stand as they are.
		{"a\nb", "a\nb"},
		{"a\r\nb", "a\r\nb"},
		{"a\r\nb\nc\r\n", "a\r\nb\nc\r\n"},
		{"\n", "\n"},
		{"\r\n", "\r\n"},
		{"\n\r\n\n", "\n\r\n\n"},
		// Blanks at a line's end go, all others stay.
		{"a \nb", "a\nb"},
		{"a \t \r\n b\t\r\n", "a\r\n b\r\n"},
		{" \t a \t b", " \t a \t b"},
		{" \t\n", "\n"},
		{"a \t ", "a"},
		{" ", ""},
		{"\t\t", ""},
		// Blanks that are told stay, and so do those ahead of them.
		{"a =20\n", "a  \n"},
		{"a =09 \t", "a \t"},
		{"=20", " "},
		// Soft lines have no end, with blanks behind the mark or without.
		{"=", ""},
		{"=\n", ""},
		{"=\r\n", ""},
		{"= \t", ""},
		{"= \t\n", ""},
		{"\t= \r\n", "\t"},
		{"a=", "a"},
		{"a= ", "a"},
		{"a =", "a "},
		{"a \t= \t\nb", "a \tb"},
		{"a=\n=\r\n=\nb", "ab"},
		{"a=\n\nb", "a\nb"},
		{"a=\n \nb", "a\nb"},
		{"a=\n b", "a b"},
		{"=3D=", "="},
		{"=3D= \r\n=3d", "=="},
		{"=0D=\n=0A", "\r\n"},
		// An end that is told is none.
		{"=0A", "\n"},
		{"a =0A", "a \n"},
		{"a =0D=0A", "a \r\n"},
		{"a =0D\n", "a \r\n"},
	} {
		if got, whole := Decode([]byte(c.text)); string(got) != c.want || !whole {
			t.Errorf("Decode(%q) = %q, %t, not %q", c.text, got, whole, c.want)
		}
	}
	if got, whole := Decode(nil); len(got) != 0 || !whole {
		t.Errorf("Decode of nothing: %q, %t", got, whole)
	}
}

// P3.1: nothing, false, of texts that are broken.
func TestDecodeBroken(t *testing.T) {
	for _, text := range []string{
		// A mark without two digits.
		"=a", "=4", "=4 ", "= 4", "=4\n", "=4\r\n", "a=b", "a= b", "=G0", "=0G", "=g0", "=0g",
		"=/0", "=0/", "=:0", "=0:", "=@0", "=0@", "=`0", "=0`", "=x41", "=+1", "=-1", "=4_",
		"= 41", "=4 1", "=\t41", "=\x00\x00", "=\xff\xff",
		// A soft one's mark is one alone.
		"==", "===", "== ", "==\n", "= =", "= =\r\n", "=3=", "=3=\n", "=4= ", "==3D", "=3D==", "a==\nb",
		// Digits stand in one line.
		"=3=\nD", "=3\nD", "=\r3D",
		// Bytes that may not be in a text.
		"\x00", "a\x00b", "\x1f", "\x7f", "\x80", "\xa0", "\xff", "\xc3\xa4", "a\vb", "a\fb", "a\v\n", "a\f",
		// A carriage return is an end's alone.
		"\r", "a\r", "a\rb", "\r\r\n", "a\r\r\n", "a\r \n", "a \r", "\n\r", "a=\r", "=\r\r\n", "=0D\r",
		// Each line counts, the first ones and the last one.
		"whole\nbroken=zz", "broken=zz\nwhole", "a=3D=\n\x7f",
	} {
		if got, whole := Decode([]byte(text)); got != nil || whole {
			t.Errorf("Decode(%q) = %q, %t", text, got, whole)
		}
	}
}

// P3.1: each byte in each place of lines of all kinds.
func TestDecodeEachByte(t *testing.T) {
	for _, base := range []string{
		"a", "abc", "=41", "=4F=", "=aF b=\r\nc", "a=\nb", "a = \t\r\nb", "a\r\n\r\n", "a \t\n=20\n", "ab \t", "==3D=\n",
	} {
		check(t, base)
		for at := range base {
			for _, c := range allBytes() {
				text := []byte(base)
				text[at] = c
				check(t, string(text))
				check(t, base[:at]+string([]byte{c})+base[at:])
			}
		}
	}
}

// P3.1: each two bytes behind a mark.
func TestDecodePairs(t *testing.T) {
	for i := range 1 << 16 {
		check(t, string([]byte{'a', '=', byte(i >> 8), byte(i), 'b'}))
		check(t, string([]byte{'=', byte(i >> 8), byte(i)}))
	}
}

// P3.1: all short texts of chosen bytes.
func TestDecodeShort(t *testing.T) {
	var fill func(text string)
	fill = func(text string) {
		check(t, text)
		if len(text) < 6 {
			for _, c := range []byte("=4dG \r\n") {
				fill(text + string([]byte{c}))
			}
		}
	}
	fill("")
}

// P3.1: what another encoder makes, with soft lines where they get long, is decoded as it was.
func TestDecodeOfAnother(t *testing.T) {
	for n := range 300 {
		b := mixed(n)
		var text bytes.Buffer
		w := quotedprintable.NewWriter(&text)
		w.Binary = true
		if _, err := w.Write(b); err != nil {
			t.Fatal(err)
		}
		if err := w.Close(); err != nil {
			t.Fatal(err)
		}
		if got, whole := Decode(text.Bytes()); !whole || !bytes.Equal(got, b) {
			t.Fatalf("Decode(%q) = %q, %t, not %q", text.Bytes(), got, whole, b)
		}
	}
}

// P3.2: each byte, as it is, or by two digits.
func TestEncode(t *testing.T) {
	const plain = "!\"#$%&'()*+,-./0123456789:;<>?@ABCDEFGHIJKLMNOPQRSTUVWXYZ[\\]^_`abcdefghijklmnopqrstuvwxyz{|}~"
	const capitals = "0123456789ABCDEF"
	for i := range 256 {
		c := byte(i)
		want := string([]byte{'=', capitals[i/16], capitals[i%16]})
		if strings.IndexByte(plain, c) >= 0 {
			want = string([]byte{c})
		}
		if got := string(Encode([]byte{c})); got != want {
			t.Errorf("Encode(%q) = %q, not %q", c, got, want)
		}
		if got := string(Encode([]byte{'a', c, c, 'b'})); got != "a"+want+want+"b" {
			t.Errorf("Encode of two %q = %q", c, got)
		}
	}
	for _, c := range []struct{ b, want string }{
		{"", ""},
		{"a=b", "a=3Db"},
		{"a b\t", "a=20b=09"},
		{"a\r\nb\n", "a=0D=0Ab=0A"},
		{"\x00\x1f\x7f\xff", "=00=1F=7F=FF"},
		{"\xc3\xa4", "=C3=A4"},
		{"=3D", "=3D3D"},
		// All is one line, however long.
		{strings.Repeat("a", 1000), strings.Repeat("a", 1000)},
		{strings.Repeat("\xab", 1000), strings.Repeat("=AB", 1000)},
	} {
		if got := string(Encode([]byte(c.b))); got != c.want {
			t.Errorf("Encode(%q) = %q, not %q", c.b, got, c.want)
		}
	}
	if got := Encode(nil); len(got) != 0 {
		t.Errorf("Encode of nothing: %q", got)
	}
}

// soft are lines' ends that leave no trace.
func soft() []string { return []string{"", "=\n", "=\r\n", "= \t\n", "=\t \r\n", "=\n=\r\n"} }

// P3.3: what is encoded is decoded as it was.
func TestRoundTrip(t *testing.T) {
	told := func(b []byte) {
		t.Helper()
		if got, whole := Decode(Encode(b)); !whole || !bytes.Equal(got, b) {
			t.Fatalf("%q comes back as %q, %t", b, got, whole)
		}
	}
	told(nil)
	told(allBytes())
	told(mixed(100001))
	for n := range 200 {
		told(mixed(n))
		told(make([]byte, n))
		told(bytes.Repeat([]byte{' '}, n))
		told(bytes.Repeat([]byte{'='}, n))
		told(bytes.Repeat([]byte("\r\n"), n))
	}
	for i := range 1 << 16 {
		told([]byte{byte(i >> 8), byte(i)})
	}
}

// P3.3: soft lines between what is encoded leave no trace, wherever they stand.
func TestSoftBetween(t *testing.T) {
	for _, b := range [][]byte{nil, []byte(" "), []byte("a \t=\r\nb "), allBytes(), mixed(90)} {
		for _, between := range soft() {
			all := between
			for i := range b {
				text := string(Encode(b[:i])) + between + string(Encode(b[i:])) + between
				if got, whole := Decode([]byte(text)); !whole || !bytes.Equal(got, b) {
					t.Fatalf("%q: %q, %t", text, got, whole)
				}
				all += string(Encode(b[i:i+1])) + between
			}
			if got, whole := Decode([]byte(all)); !whole || !bytes.Equal(got, b) {
				t.Fatalf("%q: %q, %t", all, got, whole)
			}
		}
	}
}

// What is handed in stays as it is, and shares nothing with what is answered.
func TestNewMemory(t *testing.T) {
	decode := func(b []byte) []byte { got, _ := Decode(b); return got }
	for _, call := range []struct {
		name string
		do   func(b []byte) []byte
		text string
	}{
		{"Encode", Encode, "foobar"},
		{"Encode of marks", Encode, "a= b\n"},
		{"Decode", decode, "foobar"},
		{"Decode of lines", decode, "a=3D= \r\nb \n=41"},
	} {
		b := []byte(call.text + "more")[:len(call.text)]
		first := call.do(b)
		kept := string(first)
		if string(b[:len(b)+4]) != call.text+"more" {
			t.Errorf("%s changes what is handed in: %q", call.name, b[:len(b)+4])
		}
		for i := range b {
			b[i] = '!'
		}
		if string(first) != kept || kept == "" {
			t.Errorf("%s shares what is handed in", call.name)
		}
		for i := range first {
			first[i] = '?'
		}
		if second := call.do([]byte(call.text)); string(second) != kept {
			t.Errorf("%s answers otherwise the second time: %q", call.name, second)
		}
	}
}
