package chars

import (
	"math"
	"slices"
	"strings"
	"testing"
)

// allBytes are the bytes 0 to 255, in order.
func allBytes() string {
	all := make([]byte, 256)
	for i := range all {
		all[i] = byte(i)
	}
	return string(all)
}

// these are the bytes of which is tells true, in order.
func these(is func(c byte) bool) string {
	var got []byte
	for i := range 256 {
		if is(byte(i)) {
			got = append(got, byte(i))
		}
	}
	return string(got)
}

// P1.1: each byte; of A to Z the small letter, else the byte itself.
func TestLower(t *testing.T) {
	const capitals, small = "ABCDEFGHIJKLMNOPQRSTUVWXYZ", "abcdefghijklmnopqrstuvwxyz"
	for i := range 256 {
		c := byte(i)
		want := c
		if at := strings.IndexByte(capitals, c); at >= 0 {
			want = small[at]
		}
		if got := Lower(c); got != want {
			t.Errorf("Lower(%d) = %d, not %d", c, got, want)
		}
	}
}

// P1.1: texts are bytes: those beyond ASCII, and those that are no UTF-8, stay as they are.
func TestFold(t *testing.T) {
	for _, c := range []struct{ s, want string }{
		{"", ""},
		{"INBOX", "inbox"},
		{"AbZ[@`{", "abz[@`{"},
		{"already small 09", "already small 09"},
		{"\xc3\x84\xd6 \xe2\x84\xaa\xff\x80K", "\xc3\x84\xd6 \xe2\x84\xaa\xff\x80k"},
		{"A\x00B", "a\x00b"},
	} {
		if got := Fold(c.s); got != c.want {
			t.Errorf("Fold(%q) = %q, not %q", c.s, got, c.want)
		}
	}
	all := Fold(allBytes())
	if len(all) != 256 {
		t.Fatalf("Fold of all bytes has %d bytes", len(all))
	}
	for i := range 256 {
		if all[i] != Lower(byte(i)) {
			t.Errorf("Fold of byte %d is %d", i, all[i])
		}
	}
}

// P1.1: Same is whether Fold of both is the same.
func TestSame(t *testing.T) {
	for _, c := range []struct {
		a, b string
		want bool
	}{
		{"", "", true},
		{"", "a", false},
		{"inbox", "INBOX", true},
		{"InBoX", "iNbOx", true},
		{"inbox", "inbo", false},
		{"inbo", "inbox", false},
		{"inbox", "jnbox", false},
		{"inbox", "inboy", false},
		{"a ", "a", false},
		{"@", "`", false},
		{"[", "{", false},
		{"\xff", "\xff", true},
		{"\xff", "\xfe", false},
		{"\xe2\x84\xaa", "k", false},
		{"\xc3\x84", "\xc3\xa4", false},
		{"\u017f", "s", false},
	} {
		if got := Same(c.a, c.b); got != c.want {
			t.Errorf("Same(%q, %q) = %t", c.a, c.b, got)
		}
	}
	for a := range 256 {
		for b := range 256 {
			x, y := string([]byte{byte(a)}), string([]byte{byte(b)})
			if Same(x, y) != (Fold(x) == Fold(y)) {
				t.Errorf("Same(%q, %q) isn't what Fold tells", x, y)
			}
		}
	}
}

// P1.1: a space and a tab, and no other byte.
func TestBlank(t *testing.T) {
	if got := these(Blank); got != "\t " {
		t.Errorf("blanks: %q", got)
	}
}

// P1.1: blanks at both ends, and nothing but blanks.
func TestTrim(t *testing.T) {
	for _, c := range []struct{ s, want string }{
		{"", ""},
		{" ", ""},
		{"\t", ""},
		{" \t \t", ""},
		{"a", "a"},
		{" a", "a"},
		{"a\t", "a"},
		{"\t  a \t b\t \t", "a \t b"},
		{"\r\n a \r\n", "\r\n a \r\n"},
		{" \x00 ", "\x00"},
		{"\v a\f", "\v a\f"},
		{" \xc2\xa0a\xff ", "\xc2\xa0a\xff"},
	} {
		if got := Trim(c.s); got != c.want {
			t.Errorf("Trim(%q) = %q, not %q", c.s, got, c.want)
		}
	}
}

// P1.2: each byte; the text holds all that may stand in a token, and no other.
func TestToken(t *testing.T) {
	const want = "!#$%&'*+-.0123456789ABCDEFGHIJKLMNOPQRSTUVWXYZ^_`abcdefghijklmnopqrstuvwxyz{|}~"
	if got := these(Token); got != want {
		t.Errorf("bytes of tokens: %q", got)
	}
}

// P1.2: each byte; the text holds all that may stand in an atom, and no other.
func TestAtom(t *testing.T) {
	const want = "!#$&'+,-./0123456789:;<=>?@ABCDEFGHIJKLMNOPQRSTUVWXYZ[^_`abcdefghijklmnopqrstuvwxyz|}~"
	if got := these(Atom); got != want {
		t.Errorf("bytes of atoms: %q", got)
	}
}

// P1.3: numbers, up to the greatest one.
func TestNumber(t *testing.T) {
	for _, c := range []struct {
		s    string
		want int
	}{
		{"0", 0},
		{"1", 1},
		{"9", 9},
		{"10", 10},
		{"100", 100},
		{"1234567890", 1234567890},
		{"2147483648", 2147483648},
		{"4294967294", 4294967294},
		{"4294967295", 4294967295},
	} {
		if got, is := Number(c.s); got != c.want || !is {
			t.Errorf("Number(%q) = %d, %t", c.s, got, is)
		}
	}
}

// P1.3: what is no number is 0, false.
func TestNumberNone(t *testing.T) {
	for _, s := range []string{
		"", "00", "01", "010", "0000000001", "4294967296", "4294967300", "9999999999",
		"10000000000", "00000000001", "42949672950", "18446744073709551617",
		"-1", "-0", "+1", " 1", "1 ", "1\n", "1.0", "1e3", "0x1", "1_0", "a", "1x", "x1", "1/", "1:",
		"/", ":", "\x00", "1\x00", "1\xff", "\xff", "1\xb2", "\u0661", "1\u0662", "\uff11",
		strings.Repeat("1", 1000),
	} {
		if n, is := Number(s); n != 0 || is {
			t.Errorf("Number(%q) = %d, %t", s, n, is)
		}
	}
}

// P1.3: the digits, with a sign below 0 alone.
func TestDigits(t *testing.T) {
	for _, c := range []struct {
		n    int
		want string
	}{
		{0, "0"},
		{7, "7"},
		{10, "10"},
		{-1, "-1"},
		{-120, "-120"},
		{4294967295, "4294967295"},
		{4294967296, "4294967296"},
		{math.MaxInt64, "9223372036854775807"},
		{math.MinInt64, "-9223372036854775808"},
	} {
		if got := Digits(c.n); got != c.want {
			t.Errorf("Digits(%d) = %q", c.n, got)
		}
	}
}

// P1.3: one part more than there are bytes to split at.
func TestSplit(t *testing.T) {
	for _, c := range []struct {
		s    string
		at   byte
		want []string
	}{
		{"", '.', []string{""}},
		{"a", '.', []string{"a"}},
		{".", '.', []string{"", ""}},
		{"a.b", '.', []string{"a", "b"}},
		{"a..b", '.', []string{"a", "", "b"}},
		{".a.", '.', []string{"", "a", ""}},
		{"a.b.c", '/', []string{"a.b.c"}},
		{"aAa", 'A', []string{"a", "a"}},
		{"a\x00b", 0, []string{"a", "b"}},
		{"a\xffb\xc3\xbf", 0xff, []string{"a", "b\xc3\xbf"}},
		{"\xc3\xa9", 0xc3, []string{"", "\xa9"}},
		{"\xc3\xa9", 0xe9, []string{"\xc3\xa9"}},
	} {
		if got := Split(c.s, c.at); !slices.Equal(got, c.want) {
			t.Errorf("Split(%q, %q) = %q, not %q", c.s, c.at, got, c.want)
		}
	}
}

// P1.4: Digits of Number of a text is the text.
func TestDigitsOfNumber(t *testing.T) {
	told := func(s string) {
		if n, is := Number(s); !is || Digits(n) != s {
			t.Errorf("Digits of Number of %q: %q, %t", s, Digits(n), is)
		}
	}
	for n := range 20000 {
		told(Digits(n))
	}
	for n := 1; n <= 4294967295; n = n*7/2 + 1 {
		told(Digits(n))
		told(Digits(4294967295 - n))
	}
}

// P1.4: parts with the byte between are the text; none of them has it.
func TestPartsAreTheText(t *testing.T) {
	texts := []string{"", "a", "..", "a.b", ".a..b.", "\xff.\x00\xc3\xa9.", allBytes(), strings.Repeat(allBytes(), 3)}
	for _, s := range texts {
		for i := range 256 {
			at := string([]byte{byte(i)})
			parts := Split(s, byte(i))
			if strings.Join(parts, at) != s {
				t.Errorf("parts of %q at %q: %q", s, at, parts)
			}
			if len(parts) != strings.Count(s, at)+1 {
				t.Errorf("%q has %d parts at %q", s, len(parts), at)
			}
		}
	}
}
