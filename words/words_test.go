package words

import (
	"encoding/base64"
	"regexp"
	"slices"
	"strconv"
	"strings"
	"testing"
	"unicode/utf8"
)

// wordForm is an encoded word at a text's front: its charset, without what stands behind a star, its letter, and its text.
var wordForm = regexp.MustCompile(`\A=\?([^?*]*)(?:\*[^?]*)?\?([BbQq])\?([^? \t]*)\?=`)

// codeForm is a code, or a mark that has none.
var codeForm = regexp.MustCompile(`=(?:[0-9A-Fa-f]{2})?`)

// wantedWord is what Word should answer, by forms.
func wantedWord(s string) (string, int) {
	parts := wordForm.FindStringSubmatch(s)
	if parts == nil {
		return "", 0
	}
	var b []byte
	is := true
	if strings.ToUpper(parts[2]) == "B" {
		bare := strings.NewReplacer("\r", "", "\n", "").Replace(parts[3])
		told, err := base64.StdEncoding.Strict().DecodeString(bare)
		b, is = told, err == nil
	} else {
		b, is = wantedQuoted(parts[3])
	}
	text, of := wantedText(strings.ToLower(parts[1]), b)
	if !is || !of {
		return "", 0
	}
	return text, len(parts[0])
}

// wantedQuoted are the bytes of a text in Q; false: it is broken.
func wantedQuoted(s string) ([]byte, bool) {
	is := true
	told := codeForm.ReplaceAllStringFunc(strings.ReplaceAll(s, "_", " "), func(code string) string {
		n, err := strconv.ParseInt("0"+code[1:], 16, 64)
		is = is && len(code) == 3 && err == nil
		return string([]byte{byte(n)})
	})
	return []byte(told), is
}

// wantedText is the text of a charset's bytes; false: it isn't known, or they aren't of it.
func wantedText(name string, b []byte) (string, bool) {
	most := byte(255)
	switch name {
	case "utf-8", "utf8":
		return string(b), utf8.Valid(b)
	case "us-ascii", "ascii":
		most = 127
	case "iso-8859-1", "latin1":
	default:
		return "", false
	}
	var all []rune
	for _, c := range b {
		if c > most {
			return "", false
		}
		all = append(all, rune(c))
	}
	return string(all), true
}

// wantedDecode is what Decode should answer: the text is cut into words and bytes, of which those go that are between words.
func wantedDecode(s string) string {
	type piece struct {
		text string
		kind byte
	}
	var all []piece
	kinds := ""
	for len(s) > 0 {
		p := piece{s[:1], 'x'}
		if strings.Contains(" \t", s[:1]) {
			p.kind = ' '
		}
		text, n := wantedWord(s)
		if n > 0 {
			p = piece{text, 'w'}
		}
		all = append(all, p)
		kinds += string(rune(p.kind))
		s = s[max(n, 1):]
	}
	told := ""
	for i, p := range all {
		ahead := strings.TrimRight(kinds[:i], " ")
		behind := strings.TrimLeft(kinds[i:], " ")
		if p.kind != ' ' || !strings.HasSuffix(ahead, "w") || !strings.HasPrefix(behind, "w") {
			told += p.text
		}
	}
	return told
}

// wantedEncode is what Encode should answer, a word's bytes by all the places where it may end.
func wantedEncode(s string) string {
	var all []string
	for len(s) > 0 {
		takes := 0
		for n := 1; n <= 45 && n <= len(s); n++ {
			if n == len(s) || s[n] < 128 || s[n] > 191 {
				takes = n
			}
		}
		if takes == 0 {
			takes = 45
		}
		all = append(all, "=?utf-8?B?"+base64.StdEncoding.EncodeToString([]byte(s[:takes]))+"?=")
		s = s[takes:]
	}
	return strings.Join(all, " ")
}

// checkWord holds Word of a text against what is wanted.
func checkWord(t *testing.T, s string) {
	t.Helper()
	want, wantLong := wantedWord(s)
	if got, long := Word(s); got != want || long != wantLong {
		t.Fatalf("Word(%q) = %q, %d, not %q, %d", s, got, long, want, wantLong)
	}
}

// checkDecode holds Decode of a text against what is wanted.
func checkDecode(t *testing.T, s string) {
	t.Helper()
	want := wantedDecode(s)
	got := Decode(s)
	if got != want {
		t.Fatalf("Decode(%q) = %q, not %q", s, got, want)
	}
	if !strings.Contains(s, "=?") && got != s {
		t.Fatalf("Decode(%q) = %q: it doesn't stay", s, got)
	}
}

// checkEncode holds Encode of a text against what is wanted, and UTF-8 against what it is decoded to.
func checkEncode(t *testing.T, s string) {
	t.Helper()
	want := wantedEncode(s)
	got := Encode(s)
	if got != want {
		t.Fatalf("Encode(%q) = %q, not %q", s, got, want)
	}
	if back := Decode(got); utf8.ValidString(s) && back != s {
		t.Fatalf("%q is decoded to %q", s, back)
	}
}

// texts are all texts of at most so many of the pieces.
func texts(pieces []string, most int) []string {
	all := []string{""}
	from := 0
	for range most {
		to := len(all)
		for _, text := range all[from:to] {
			for _, piece := range pieces {
				all = append(all, text+piece)
			}
		}
		from = to
	}
	return all
}

// mixed are n of the pieces, in an order that doesn't repeat soon.
func mixed(pieces []string, n int, state uint32) string {
	var text strings.Builder
	for range n {
		state = state*1664525 + 1013904223
		text.WriteString(pieces[int(state>>16)%len(pieces)])
	}
	return text.String()
}

// P9.1: words as they are written out; whatever stands behind them counts for nothing.
func TestWord(t *testing.T) {
	for _, c := range []struct{ s, want string }{
		{"=?utf-8?Q?a=5F_b?=", "a_ b"},
		{"=?UTF-8?q?=C3=A9?=", "\u00e9"},
		{"=?utf8?q?=c3=a9=e2=82=Ac?=", "\u00e9\u20ac"},
		{"=?iso-8859-1?Q?=E9?=", "\u00e9"},
		{"=?Latin1?Q?\xe9\xff=00?=", "\u00e9\u00ff\x00"},
		{"=?latin1?B?6Q==?=", "\u00e9"},
		{"=?us-ascii?Q?a=0D=0Ab?=", "a\r\nb"},
		{"=?ASCII?b?YQ==?=", "a"},
		{"=?utf-8?B?w6k=?=", "\u00e9"},
		{"=?utf-8?B?YWJj?=", "abc"},
		{"=?utf-8?B?YW\r\nJj\n?=", "abc"},
		{"=?utf-8?B??=", ""},
		{"=?utf-8?Q??=", ""},
		{"=?latin1?q?_?=", " "},
		{"=?utf-8?Q?=5f=5F=3D=3F=20=09?=", "__=? \t"},
		{"=?utf-8?Q?=3D41?=", "=41"},
		{"=?utf-8?Q?a\r\nb\x00!\"(),.:;<>@[]?=", "a\r\nb\x00!\"(),.:;<>@[]"},
		{"=?utf-8?Q?\xc3\xa9?=", "\u00e9"},
		{"=?utf-8*en?Q?a?=", "a"},
		{"=?UTF-8*de-AT?b?YQ==?=", "a"},
		{"=?utf-8*?Q?a?=", "a"},
		{"=?utf-8**?Q?a?=", "a"},
		{"=?latin1*utf-8*=41 \t\xff?Q?=E9?=", "\u00e9"},
	} {
		for _, behind := range []string{"", " ", "a", "=", "?", "?=", "=?", " b?=", "\xff", c.s} {
			got, long := Word(c.s + behind)
			if got != c.want || long != len(c.s) {
				t.Errorf("Word(%q) = %q, %d, not %q, %d", c.s+behind, got, long, c.want, len(c.s))
			}
			checkWord(t, c.s+behind)
		}
	}
}

// P9.1: texts that begin with no encoded word have neither a text nor a length.
func TestWordNone(t *testing.T) {
	for _, s := range []string{
		"", "=", "=?", "=??", "=???", "=????", "=????=", "?=", "a",
		"=?utf-8", "=?utf-8?", "=?utf-8?Q", "=?utf-8?Q?", "=?utf-8?Q?a", "=?utf-8?Q?a?", "=?utf-8?Q?=", "=?utf-8?Q?a=",
		" =?utf-8?Q?a?=", "a=?utf-8?Q?a?=", "==?utf-8?Q?a?=", "?utf-8?Q?a?=", "=utf-8?Q?a?=", "= ?utf-8?Q?a?=",
		"=??Q?a?=", "=?*en?Q?a?=", "=?*utf-8?Q?a?=", "=?utf-16?Q?a?=", "=?utf?Q?a?=", "=?utf-8 ?Q?a?=", "=? utf-8?Q?a?=",
		"=?utf-8 *en?Q?a?=", "=?\"utf-8\"?Q?a?=", "=?u?tf-8?Q?a?=", "=?utf-8*e?n?Q?a?=", "=?koi8-r?Q?a?=", "=?utf-8'en?Q?a?=",
		"=?utf-8??a?=", "=?utf-8?QQ?a?=", "=?utf-8?X?a?=", "=?utf-8?*?a?=", "=?utf-8? Q?a?=", "=?utf-8?Q ?a?=", "=?utf-8?BQ?YQ==?=",
		"=?utf-8?Q*?a?=", "=?utf-8?8?a?=", "=?utf-8?\xd1?a?=", "=?utf-8?\u0421?a?=",
		"=?utf-8?Q?a b?=", "=?utf-8?Q? a?=", "=?utf-8?Q?a\t?=", "=?utf-8?B?YQ ==?=", "=?utf-8?B?YQ==\t?=", "=?utf-8?Q? ?=",
		"=?utf-8?Q?a?b?=", "=?utf-8?Q?a??=", "=?utf-8?Q?a? =", "=?utf-8?Q???=", "=?utf-8?Q?a?b",
		"=?utf-8?Q?=?=", "=?utf-8?Q?a=?=", "=?utf-8?Q?=4?=", "=?utf-8?Q?=G1?=", "=?utf-8?Q?=1G?=", "=?utf-8?Q?==?=", "=?utf-8?Q?=4=31?=",
		"=?utf-8?Q?=\r\n?=", "=?utf-8?Q?=+1?=", "=?utf-8?Q?=-1?=", "=?utf-8?Q?=_1?=", "=?utf-8?Q?=1_?=", "=?utf-8?Q?=0x41?=", "=?utf-8?Q?=4 1?=",
		"=?utf-8?B?Y?=", "=?utf-8?B?YQ?=", "=?utf-8?B?YQ=?=", "=?utf-8?B?YQ===?=", "=?utf-8?B?YR==?=", "=?utf-8?B?YQ==YQ==?=", "=?utf-8?B?=?=",
		"=?utf-8?B?YQ=_?=", "=?utf-8?B?Y-_h?=", "=?utf-8?B?a=62?=", "=?utf-8?B?====?=",
		"=?utf-8?Q?=E9?=", "=?utf-8?Q?=C3?=", "=?utf-8?Q?=ED=A0=80?=", "=?utf-8?Q?\xff?=", "=?utf-8?B?6Q==?=", "=?ascii?Q?=80?=", "=?us-ascii?B?gA==?=",
	} {
		if got, long := Word(s); got != "" || long != 0 {
			t.Errorf("Word(%q) = %q, %d", s, got, long)
		}
		checkWord(t, s)
	}
}

// P9.1: each letter there might be, with texts that either kind reads.
func TestLetters(t *testing.T) {
	for i := range 256 {
		letter := string([]byte{byte(i)})
		want, wantLong := "", 16
		switch letter {
		case "B", "b":
			want = "abc"
		case "Q", "q":
			want = "YWJj"
		default:
			wantLong = 0
		}
		s := "=?utf-8?" + letter + "?YWJj?="
		if got, long := Word(s); got != want || long != wantLong {
			t.Errorf("Word(%q) = %q, %d, not %q, %d", s, got, long, want, wantLong)
		}
		for _, text := range []string{"", "YWI=", "YWI=3D", "a_b", "=?"} {
			checkWord(t, "=?utf-8?"+letter+"?"+text+"?=")
			checkWord(t, "=?utf-8?Q"+letter+"?"+text+"?=")
		}
	}
}

// P9.1: each byte in a text by itself, and as a code with digits of both sizes, in each charset.
func TestQuotedBytes(t *testing.T) {
	for _, name := range []string{"us-ascii", "ascii", "iso-8859-1", "latin1", "utf-8", "utf8", "koi8-r", ""} {
		for i := range 256 {
			c := string([]byte{byte(i)})
			code := strconv.FormatInt(int64(256+i), 16)[1:]
			for _, text := range []string{c, "a" + c, c + "a", "\xc3" + c, "=" + c, "=4" + c, "=" + c + "4",
				"=" + code, "=" + strings.ToUpper(code), "=c3=" + code, "=" + code + "=a9", code} {
				checkWord(t, "=?"+name+"?q?"+text+"?=")
			}
		}
	}
	for i := range 256 {
		code := "=" + strconv.FormatInt(int64(256+i), 16)[1:]
		want := string([]rune{rune(i)})
		for _, s := range []string{"=?latin1?Q?" + code + "?=", "=?latin1?Q?" + strings.ToUpper(code) + "?="} {
			if got, long := Word(s); got != want || long != len(s) {
				t.Errorf("Word(%q) = %q, %d, not %q", s, got, long, want)
			}
		}
	}
}

// P9.1: each two bytes behind a mark of a code.
func TestCodes(t *testing.T) {
	for a := range 256 {
		for b := range 256 {
			checkWord(t, "=?latin1?Q?="+string([]byte{byte(a), byte(b)})+"?=")
		}
	}
}

// P9.1: a word but for a byte: another one, one more, or one less.
func TestAlmostWords(t *testing.T) {
	for _, word := range []string{"=?utf-8?Q?a_=5Fb?=", "=?latin1*en?q?=E9\xe9?=", "=?us-ascii?B?YWI=?=", "=?UTF8?b?w6nDqQ==?=", "=?utf-8?Q??="} {
		for at := range len(word) + 1 {
			for i := range 256 {
				c := string([]byte{byte(i)})
				checkWord(t, word[:at]+c+word[at:])
				checkDecode(t, "x "+word[:at]+c+word[at:]+" y")
				if at < len(word) {
					checkWord(t, word[:at]+c+word[at+1:])
					checkDecode(t, word+" "+word[:at]+c+word[at+1:]+" "+word)
				}
			}
			checkWord(t, word[:at])
			checkWord(t, word[at:])
			if at < len(word) {
				checkWord(t, word[:at]+word[at+1:])
				checkDecode(t, word[:at]+" "+word[at:]+word)
			}
		}
	}
}

// P9.2: texts as they are written out.
func TestDecode(t *testing.T) {
	const a, b, none = "=?utf-8?Q?a?=", "=?latin1?B?6Q==?=", "=?utf-8?Q??="
	for _, c := range []struct{ s, want string }{
		{"", ""},
		{"=?utf-8?Q?a=5F_b?=", "a_ b"},
		{"plain \t text", "plain \t text"},
		{a, "a"},
		{a + b, "a\u00e9"},
		{a + " " + b, "a\u00e9"},
		{a + "\t" + b, "a\u00e9"},
		{a + " \t  \t" + b + " " + a, "a\u00e9a"},
		{a + "\r\n " + b, "a\r\n \u00e9"},
		{a + " \r\n" + b, "a \r\n\u00e9"},
		{a + "\n" + b, "a\n\u00e9"},
		{a + "\v" + b, "a\v\u00e9"},
		{a + "\xa0" + b, "a\xa0\u00e9"},
		{a + "\u00a0" + b, "a\u00a0\u00e9"},
		{" " + a + " ", " a "},
		{" \t" + a, " \ta"},
		{a + " \t", "a \t"},
		{"x " + a + " y", "x a y"},
		{"x" + a + "y", "xay"},
		{"x  " + a + " y " + b + "  z", "x  a y \u00e9  z"},
		{a + " y" + " " + b, "a y \u00e9"},
		{a + " =?utf-8?X?a?= " + b, "a =?utf-8?X?a?= \u00e9"},
		{a + " =?utf-16?Q?a?=", "a =?utf-16?Q?a?="},
		{"=?utf-8?Q?a b?= " + a, "=?utf-8?Q?a b?= a"},
		{"=?" + a, "=?a"},
		{"=" + a + "=", "=a="},
		{"=?utf-8?Q?" + a, "=?utf-8?Q?a"},
		{"=?utf-8?Q?b" + a, "=?utf-8?Q?ba"},
		{"(" + a + ", \"" + b + "\")", "(a, \"\u00e9\")"},
		{"=?utf-8?Q?_a_?= =?utf-8?Q?_b_?=", " a  b "},
		{"=?utf-8?Q?=20?= \t=?utf-8?Q?=09?= ", " \t "},
		{none, ""},
		{none + " " + none, ""},
		{"x " + none + " " + none + " y", "x  y"},
		{a + " " + none + " " + b, "a\u00e9"},
		{"=?utf-8?Q?=C3?= =?utf-8?Q?=A9?=", "=?utf-8?Q?=C3?= =?utf-8?Q?=A9?="},
		{"=?utf-8?Q?=3D=3Futf-8=3FQ=3Fa=3F=3D?=", a},
		{"=?utf-8?Q?=3D?=?utf-8?Q?a?=", "=?utf-8?Q?a?="},
		{"\xff" + a + "\x80\x00", "\xffa\x80\x00"},
	} {
		if got := Decode(c.s); got != c.want {
			t.Errorf("Decode(%q) = %q, not %q", c.s, got, c.want)
		}
		checkDecode(t, c.s)
	}
}

// P9.1, P9.2: all short texts of whole words, what is nearly one, blanks, and others.
func TestShortTexts(t *testing.T) {
	words := []string{"=?utf-8?Q?a?=", "=?latin1?B?6Q==?=", "=?utf8*x?q??=", "=?utf-8?Q?=FF?=", " ", "\t", "x", "\r\n", "\xe9", "="}
	for _, s := range texts(words, 4) {
		checkWord(t, s)
		checkDecode(t, s)
	}
}

// P9.1, P9.2: all short texts of a word's pieces.
func TestPieces(t *testing.T) {
	for _, s := range texts([]string{"=?", "?=", "?", "=", "Q", "B", "ascii", "*", " ", "=41", "QQ"}, 5) {
		checkWord(t, s)
		checkDecode(t, s)
		checkWord(t, "=?utf-8?"+s)
		checkDecode(t, "=?utf-8?Q?a?= =?latin1?"+s+"?= =?utf-8?Q?a?=")
	}
}

// P9.1, P9.2: texts of many pieces.
func TestMixed(t *testing.T) {
	pieces := []string{"=?utf-8?Q?", "=?latin1?b?", "6Q==", "?=", "?= ", "?=\t", " ", "=E9", "=c3=A9", "_", "*en", "=?us-ascii?q?a?=", "=?utf8?B?YQ==?= ", "x"}
	for i := range 30000 {
		s := mixed(pieces, i%40, uint32(i))
		checkWord(t, s)
		checkDecode(t, s)
	}
}

// P9.3: texts as they are written out.
func TestEncode(t *testing.T) {
	a := func(n int) string { return strings.Repeat("a", n) }
	on := func(n int) string { return strings.Repeat("\x80", n) }
	word := func(s string) string { return "=?utf-8?B?" + base64.StdEncoding.EncodeToString([]byte(s)) + "?=" }
	for _, c := range []struct{ s, want string }{
		{"", ""},
		{"a", "=?utf-8?B?YQ==?="},
		{"a b", "=?utf-8?B?YSBi?="},
		{"\u00e9", "=?utf-8?B?w6k=?="},
		{"=?utf-8?B?YQ==?=", "=?utf-8?B?PT91dGYtOD9CP1lRPT0/PQ==?="},
		{"\xff\x00", "=?utf-8?B?/wA=?="},
		{a(45), word(a(45))},
		{a(46), word(a(45)) + " =?utf-8?B?YQ==?="},
		{a(90), word(a(45)) + " " + word(a(45))},
		{a(91), word(a(45)) + " " + word(a(45)) + " " + word("a")},
		{a(44) + "\u00e9", word(a(44)) + " " + word("\u00e9")},
		{a(43) + "\u00e9", word(a(43) + "\u00e9")},
		{a(43) + "\u00e9b", word(a(43)+"\u00e9") + " " + word("b")},
		{a(44) + "\u20acb", word(a(44)) + " " + word("\u20acb")},
		{a(43) + "\u20acb", word(a(43)) + " " + word("\u20acb")},
		{a(42) + "\u20acb", word(a(42)+"\u20ac") + " " + word("b")},
		{a(42) + "\U0001f4ebb", word(a(42)) + " " + word("\U0001f4ebb")},
		{a(41) + "\U0001f4ebb", word(a(41)+"\U0001f4eb") + " " + word("b")},
		{on(1), word(on(1))},
		{on(45), word(on(45))},
		{on(46), word(on(45)) + " " + word(on(1))},
		{on(100), word(on(45)) + " " + word(on(45)) + " " + word(on(10))},
		{"a" + on(44), word("a" + on(44))},
		{"a" + on(45), word("a"+on(44)) + " " + word(on(1))},
		{"ab" + on(43), word("ab" + on(43))},
		{"ab" + on(44), word("a") + " " + word("b"+on(44))},
		{"ab" + on(60), word("a") + " " + word("b"+on(44)) + " " + word(on(16))},
		{on(10) + "a" + on(35), word(on(10)) + " " + word("a"+on(35))},
		{a(45) + "\x7f", word(a(45)) + " " + word("\x7f")},
		{a(45) + "\x80", word(a(44)) + " " + word("a\x80")},
		{a(45) + "\xbf", word(a(44)) + " " + word("a\xbf")},
		{a(45) + "\xc0", word(a(45)) + " " + word("\xc0")},
		{a(45) + "\xff", word(a(45)) + " " + word("\xff")},
	} {
		if got := Encode(c.s); got != c.want {
			t.Errorf("Encode(%q) = %q, not %q", c.s, got, c.want)
		}
		checkEncode(t, c.s)
	}
}

// P9.3: each byte in each place of texts that are about as long as a word takes.
func TestEncodeEachByte(t *testing.T) {
	for _, text := range []string{strings.Repeat("a", 48), strings.Repeat("\x80", 48), strings.Repeat("\u00e9", 24), "a" + strings.Repeat("\u20ac", 30)} {
		for at := range len(text) {
			for i := range 256 {
				b := []byte(text)
				b[at] = byte(i)
				checkEncode(t, string(b))
			}
		}
	}
}

// P9.3: all rows of bytes that go on with a character, and those that don't, where words end.
func TestEncodeRows(t *testing.T) {
	for _, row := range texts([]string{"\x7f", "\x80", "\xbf", "\xc0"}, 6) {
		for ahead := 39; ahead < 47; ahead++ {
			for _, fill := range []string{"a", "\x80"} {
				checkEncode(t, strings.Repeat(fill, ahead)+row)
			}
		}
	}
}

// P9.4: each character there is is decoded as it was, where words end and within them.
func TestEachCharacter(t *testing.T) {
	for r := range rune(utf8.MaxRune + 1) {
		if !utf8.ValidRune(r) {
			continue
		}
		s := strings.Repeat("a", 43) + string(r) + "b" + string(r)
		if got := Decode(Encode(s)); got != s {
			t.Fatalf("%q is decoded to %q", s, got)
		}
	}
}

// P9.4: texts of UTF-8 of all lengths are decoded as they were.
func TestRoundTrips(t *testing.T) {
	pieces := []string{"a", " ", "\t", "=?", "?=", "\r\n", "\x00", "\u00e9", "\u20ac", "\U0001f4eb", "\ufffd", "\ufeff", "=?utf-8?B?YQ==?="}
	for i := range 20000 {
		checkEncode(t, mixed(pieces, i%120, uint32(i)))
	}
	for _, s := range texts(pieces, 4) {
		checkEncode(t, s)
	}
}

// P9.4: texts without what words begin with stay, whatever they are.
func TestStays(t *testing.T) {
	for a := range 256 {
		for b := range 256 {
			s := string([]byte{byte(a), byte(b)})
			for _, s := range []string{s, "=" + s + "utf-8?Q?a?=", " " + s + " "} {
				if got := Decode(s); got != s && !strings.Contains(s, "=?") {
					t.Fatalf("Decode(%q) = %q", s, got)
				}
				checkDecode(t, s)
			}
		}
	}
	pieces := []string{"= ?", "?utf-8?Q?a?=", "=\x00?", "?=", "\xff", " ", "a", "\t", "?"}
	for i := range 3000 {
		s := mixed(pieces, i%60, uint32(i))
		for strings.Contains(s, "=?") {
			s = strings.ReplaceAll(s, "=?", "=")
		}
		if got := Decode(s); got != s {
			t.Fatalf("Decode(%q) = %q", s, got)
		}
	}
}

// P9.1 to P9.4: long texts, whatever is in them.
func TestLongTexts(t *testing.T) {
	for _, piece := range []string{"a", " ", "=?", "=?utf-8?", "=?utf-8?Q?", "=?utf-8?Q?a", "=?utf-8?Q?a?= ", "=?utf-8?B?YQ==?=", "?", "?=", "\u00e9", "\x80"} {
		long := strings.Repeat(piece, 1<<20/len(piece))
		if got := Decode(long); got != long && !strings.HasSuffix(piece, "?=") && !strings.HasSuffix(piece, " ") {
			t.Errorf("Decode of many %q is another text, of %d bytes", piece, len(got))
		}
		if got := Decode(Encode(long)); utf8.ValidString(long) && got != long {
			t.Errorf("many %q are decoded to a text of %d bytes", piece, len(got))
		}
	}
	for _, word := range []string{"=?utf-8?Q?" + strings.Repeat("=41", 1<<18) + "?=", "=?latin1?B?" + strings.Repeat("QUFB", 1<<16) + "?=", "=?utf-8*" + strings.Repeat("x ", 1<<18) + "?Q?" + strings.Repeat("A", 1<<18) + "?="} {
		got, long := Word(word)
		if long != len(word) || strings.Trim(got, "A") != "" || len(got) < 3<<16 {
			t.Errorf("a word of %d bytes: a text of %d, and %d bytes", len(word), len(got), long)
		}
		if got := Decode(word + strings.Repeat(" ", 1<<18) + word); len(got)%2 != 0 || strings.Trim(got, "A") != "" {
			t.Errorf("two words of %d bytes: a text of %d", len(word), len(got))
		}
	}
}

// P9.2, P9.3: the same calls have the same answers.
func TestAgain(t *testing.T) {
	const s = "x =?utf-8?Q?a?= =?latin1?B?6Q==?= y"
	var all []string
	for range 3 {
		all = append(all, Decode(s)+Encode(s))
	}
	if len(slices.Compact(all)) != 1 {
		t.Errorf("answers: %q", all)
	}
}
