package b64

import (
	"bytes"
	"encoding/base64"
	"math"
	"slices"
	"strings"
	"testing"
)

// allBytes are the bytes 0 to 255, in order.
func allBytes() []byte {
	all := make([]byte, 256)
	for i := range all {
		all[i] = byte(i)
	}
	return all
}

// mixed are n bytes that don't repeat soon.
func mixed(n int) []byte {
	b := make([]byte, n)
	state := uint32(n) + 1
	for i := range b {
		state = state*1664525 + 1013904223
		b[i] = byte(state >> 24)
	}
	return b
}

// P2.1: the letters, and what makes them four, without width.
func TestEncode(t *testing.T) {
	for _, c := range []struct{ b, want string }{
		{"", ""},
		{"\x00", "AA=="},
		{"\x00\x00", "AAA="},
		{"\x00\x00\x00", "AAAA"},
		{"\x00\x00\x00\x00", "AAAAAA=="},
		{"\xff", "/w=="},
		{"\xff\xff", "//8="},
		{"\xff\xff\xff", "////"},
		{"\xfb\xef\xbe", "++++"},
		{"\x80", "gA=="},
		{"\x00\x01", "AAE="},
		{"f", "Zg=="},
		{"fo", "Zm8="},
		{"foo", "Zm9v"},
		{"foob", "Zm9vYg=="},
		{"fooba", "Zm9vYmE="},
		{"foobar", "Zm9vYmFy"},
	} {
		for _, width := range []int{0, -1, -76, math.MinInt} {
			if got := string(Encode([]byte(c.b), width)); got != c.want {
				t.Errorf("Encode(%q, %d) = %q, not %q", c.b, width, got, c.want)
			}
		}
	}
	if got := Encode(nil, 0); len(got) != 0 {
		t.Errorf("Encode of nothing: %q", got)
	}
}

// P2.1: each of the letters, in its place.
func TestEncodeLetters(t *testing.T) {
	const want = "ABCDEFGHIJKLMNOPQRSTUVWXYZabcdefghijklmnopqrstuvwxyz0123456789+/"
	for i := range 64 {
		four := Encode([]byte{byte(i << 2), 0, byte(i)}, 0)
		if len(four) != 4 || four[0] != want[i] || four[3] != want[i] {
			t.Errorf("letter %d: %q", i, four)
		}
	}
}

// P2.1: a line's end behind each width letters, and behind the last ones.
func TestEncodeWidth(t *testing.T) {
	for _, c := range []struct {
		b     string
		width int
		want  string
	}{
		{"", 1, ""},
		{"", 76, ""},
		{"\x00", 1, "A\r\nA\r\n=\r\n=\r\n"},
		{"\x00", 2, "AA\r\n==\r\n"},
		{"\x00", 3, "AA=\r\n=\r\n"},
		{"\x00", 4, "AA==\r\n"},
		{"\x00", 5, "AA==\r\n"},
		{"foobar", 3, "Zm9\r\nvYm\r\nFy\r\n"},
		{"foobar", 4, "Zm9v\r\nYmFy\r\n"},
		{"foobar", 7, "Zm9vYmF\r\ny\r\n"},
		{"foobar", 8, "Zm9vYmFy\r\n"},
		{"foobar", 9, "Zm9vYmFy\r\n"},
		{"foobar", math.MaxInt, "Zm9vYmFy\r\n"},
		{"foobar", math.MaxInt - 1, "Zm9vYmFy\r\n"},
	} {
		if got := string(Encode([]byte(c.b), c.width)); got != c.want {
			t.Errorf("Encode(%q, %d) = %q, not %q", c.b, c.width, got, c.want)
		}
	}
	line := strings.Repeat("AAAA", 19) + "\r\n"
	if got := string(Encode(make([]byte, 2*57), 76)); got != line+line {
		t.Errorf("two whole lines: %q", got)
	}
	if got := string(Encode(make([]byte, 2*57+1), 76)); got != line+line+"AA==\r\n" {
		t.Errorf("two whole lines, and a part: %q", got)
	}
}

// P2.1: without their lines' ends, the letters are those of no width; all lines but the last one are full.
func TestEncodeLines(t *testing.T) {
	for n := range 120 {
		b := mixed(n)
		want := base64.StdEncoding.EncodeToString(b)
		if got := string(Encode(b, 0)); got != want {
			t.Fatalf("Encode(%q, 0) = %q, not %q", b, got, want)
		}
		for width := 1; width < 170; width++ {
			got := string(Encode(b, width))
			lines := strings.SplitAfter(got, "\r\n")
			if lines[len(lines)-1] != "" {
				t.Fatalf("%d bytes by %d: no line's end at the end of %q", n, width, got)
			}
			lines = lines[:len(lines)-1]
			for i, line := range lines {
				if len(line) != width+2 && i < len(lines)-1 || len(line) > width+2 || len(line) < 3 {
					t.Fatalf("%d bytes by %d: line %q", n, width, line)
				}
			}
			if strings.ReplaceAll(got, "\r\n", "") != want {
				t.Fatalf("%d bytes by %d: %q", n, width, got)
			}
		}
	}
}

// P2.2: four bytes are left out, and no other.
func TestBare(t *testing.T) {
	for _, c := range []struct{ b, want string }{
		{"", ""},
		{" \t\r\n", ""},
		{" A\tA\r\n= \n=\r", "AA=="},
		{"AA==", "AA=="},
		{"a\vb\fc\x00d\x85e\xa0f\xc2\xa0g", "a\vb\fc\x00d\x85e\xa0f\xc2\xa0g"},
		{"-_*", "-_*"},
	} {
		if got := string(Bare([]byte(c.b))); got != c.want {
			t.Errorf("Bare(%q) = %q, not %q", c.b, got, c.want)
		}
	}
	if got := Bare(nil); len(got) != 0 {
		t.Errorf("Bare of nothing: %q", got)
	}
	want := slices.DeleteFunc(allBytes(), func(c byte) bool { return strings.IndexByte(" \t\r\n", c) >= 0 })
	if got := Bare(allBytes()); len(want) != 252 || !bytes.Equal(got, want) {
		t.Errorf("Bare of all bytes: %q", got)
	}
}

// P2.2: the bytes of letters, whatever blanks and lines' ends stand between.
func TestDecode(t *testing.T) {
	for _, c := range []struct{ text, want string }{
		{"", ""},
		{" \r\n\t", ""},
		{"AA==", "\x00"},
		{"AAA=", "\x00\x00"},
		{"AQ==", "\x01"},
		{"Ag==", "\x02"},
		{"AAE=", "\x00\x01"},
		{"AAAA", "\x00\x00\x00"},
		{"/w==", "\xff"},
		{"//8=", "\xff\xff"},
		{"++++", "\xfb\xef\xbe"},
		{"Zm9vYg==", "foob"},
		{"Zm9vYmE=", "fooba"},
		{"Zm9vYmFy", "foobar"},
		{"Z\nm 9\tv\r\n\r\nYg= =", "foob"},
		{"Zm9v\rYmE\n=", "fooba"},
		{"\r\n Zm9vYmFy", "foobar"},
	} {
		got, whole := Decode([]byte(c.text))
		if string(got) != c.want || !whole {
			t.Errorf("Decode(%q) = %q, %t", c.text, got, whole)
		}
	}
	if got, whole := Decode(nil); len(got) != 0 || !whole {
		t.Errorf("Decode of nothing: %q, %t", got, whole)
	}
}

// P2.2: nothing, false: of no bytes are these the letters.
func TestDecodeBroken(t *testing.T) {
	for _, text := range []string{
		"A", "AA", "AAA", "AAAAA", "AAAAAA", "AAAAAAA", "AA=", "A=", "=",
		"A===", "====", "=AAA", "A=AA", "AA=A", "==AA", "AA=AA===", "A=A=",
		"AA======", "AAAA====", "AAAA=", "AAAA==", "AAA==", "AA===",
		"AA==AA==", "AA==AAAA", "AAA=AAAA", "AAAAAA==AAAA", "AA==\r\nAA==",
		"AB==", "AC==", "AE==", "AI==", "AP==", "AAB=", "AAC=", "A/==", "AA/=", "Zm9vYh==", "Zm9vYmF=",
		"AA-A", "AA_A", "-___", "AA*=", "AA,A", "AA.A", "AA:A", "AA@A", "AA[A", "AA`A", "AA{A", "AA\x00A",
		"AA\xffA", "AA\x80A", "AA\xc1A", "AA\vA", "AA\fA", "AA\xa0=", "AAA\x00", "\x00AAA", "\x00\x00\x00\x00",
		"AAAAA*AA", "AAAA\x00", "*AAAAAAA",
	} {
		if got, whole := Decode([]byte(text)); len(got) != 0 || whole {
			t.Errorf("Decode(%q) = %q, %t", text, got, whole)
		}
	}
}

// P2.2: of each text, by what Encode makes of the bytes.
func TestDecodeIsWhatIsEncoded(t *testing.T) {
	check := func(text []byte) {
		t.Helper()
		got, whole := Decode(text)
		want, err := base64.StdEncoding.Strict().DecodeString(string(Bare(text)))
		if whole != (err == nil) || whole && !bytes.Equal(got, want) || !whole && len(got) != 0 {
			t.Fatalf("Decode(%q) = %q, %t", text, got, whole)
		}
		if whole && !bytes.Equal(Encode(got, 0), Bare(text)) {
			t.Fatalf("Decode(%q) = %q, of which that isn't the text", text, got)
		}
	}
	const some = "AQgw/9= \n-"
	var fill func(text []byte)
	fill = func(text []byte) {
		check(text)
		if len(text) < 6 {
			for _, c := range []byte(some) {
				fill(append(text[:len(text):len(text)], c))
			}
		}
	}
	fill(nil)
	// Each byte in each place of four letters, and of the next four.
	for _, base := range []string{"AAAA", "AAA=", "AA==", "AAAAAAAA", "AAAAAA=="} {
		for at := range base {
			for _, c := range allBytes() {
				text := []byte(base)
				text[at] = c
				check(text)
			}
		}
	}
}

// P2.3: what is encoded is decoded as it was.
func TestRoundTrip(t *testing.T) {
	told := func(b []byte, width int) {
		t.Helper()
		got, whole := Decode(Encode(b, width))
		if !whole || !bytes.Equal(got, b) {
			t.Fatalf("%q by %d comes back as %q, %t", b, width, got, whole)
		}
	}
	widths := []int{math.MinInt, -1, 0, 1, 2, 3, 4, 5, 7, 60, 64, 75, 76, 77, 1000, math.MaxInt}
	for _, width := range widths {
		for n := range 200 {
			told(mixed(n), width)
			told(make([]byte, n), width)
			told(bytes.Repeat([]byte{255}, n), width)
		}
		told(allBytes(), width)
		told(mixed(100001), width)
	}
	for i := range 1 << 16 {
		told([]byte{byte(i >> 8), byte(i)}, 0)
		told([]byte{byte(i)}, 0)
		told([]byte{byte(i >> 8), 0x55, byte(i)}, 0)
	}
}

// What is handed in stays as it is, and shares nothing with what is answered.
func TestNewMemory(t *testing.T) {
	for _, call := range []struct {
		name string
		do   func(b []byte) []byte
		text string
	}{
		{"Encode", func(b []byte) []byte { return Encode(b, 0) }, "foobar"},
		{"Encode by 4", func(b []byte) []byte { return Encode(b, 4) }, "foobar"},
		{"Decode", func(b []byte) []byte { got, _ := Decode(b); return got }, "Zm9vYmFy"},
		{"Bare", Bare, "Zm9vYmFy"},
		{"Bare of blanks", Bare, " Z m\r\n"},
	} {
		b := []byte(call.text + "more")[:len(call.text)]
		first := call.do(b)
		kept := string(first)
		if string(b[:len(b)+4]) != call.text+"more" {
			t.Errorf("%s changes what is handed in: %q", call.name, b[:len(b)+4])
		}
		for i := range b {
			b[i] = '!'
		}
		if string(first) != kept || kept == "" {
			t.Errorf("%s shares what is handed in", call.name)
		}
		for i := range first {
			first[i] = '?'
		}
		if second := call.do([]byte(call.text)); string(second) != kept {
			t.Errorf("%s answers otherwise the second time: %q", call.name, second)
		}
	}
}
