package wire

import (
	"math/rand"
	"slices"
	"strings"
	"testing"

	"letterbox/api"
)

// allBytes are the bytes 0 to 255, in order.
func allBytes() string {
	all := make([]byte, 256)
	for i := range all {
		all[i] = byte(i)
	}
	return string(all)
}

// Kinds have the numbers of the chapter.
func TestKinds(t *testing.T) {
	if got := []int{Word, Str, Open, Close, Space}; !slices.Equal(got, []int{1, 2, 3, 4, 5}) {
		t.Errorf("kinds of tokens: %v", got)
	}
	if got := []int{Go, Cmd, Bad}; !slices.Equal(got, []int{1, 2, 3}) {
		t.Errorf("kinds of events: %v", got)
	}
}

// P18.1: texts between quotes, and literals.
func TestString(t *testing.T) {
	long := strings.Repeat("a", 1000)
	marks := strings.Repeat(`"`, 1000)
	for text, want := range map[string]string{
		"":                `""`,
		"a":               `"a"`,
		"a b":             `"a b"`,
		" ":               `" "`,
		"~":               `"~"`,
		"NIL":             `"NIL"`,
		`"`:               `"\""`,
		`\`:               `"\\"`,
		`a"b\c`:           `"a\"b\\c"`,
		"{1}":             `"{1}"`,
		"\x1f":            "{1}\r\n\x1f",
		"\x7f":            "{1}\r\n\x7f",
		"\x00":            "~{1}\r\n\x00",
		"\t":              "{1}\r\n\t",
		"a\r\nb":          "{4}\r\na\r\nb",
		"\xc3\x84":        "{2}\r\n\xc3\x84",
		"\xff":            "{1}\r\n\xff",
		"a\x00b\x00":      "~{4}\r\na\x00b\x00",
		"0123456789\n":    "{11}\r\n0123456789\n",
		"\"\\\n":          "{3}\r\n\"\\\n",
		long:              `"` + long + `"`,
		long + "a":        "{1001}\r\n" + long + "a",
		long[1:] + "\x80": "{1000}\r\n" + long[1:] + "\x80",
		"\x00" + long:     "~{1001}\r\n\x00" + long,
		marks:             `"` + strings.Repeat(`\"`, 1000) + `"`,
		marks + `"`:       "{1001}\r\n" + marks + `"`,
		"~{1}\r\nb":       "{7}\r\n~{1}\r\nb",
		"ends in {5}\r\n": "{13}\r\nends in {5}\r\n",
	} {
		if got := String(text); got != want {
			t.Errorf("String(%.60q) = %.60q, not %.60q", text, got, want)
		}
		if got := NString(text, true); got != want {
			t.Errorf("NString(%.60q, true) = %.60q, not %.60q", text, got, want)
		}
		if got := NString(text, false); got != "NIL" {
			t.Errorf("NString(%.60q, false) = %.60q", text, got)
		}
		checkString(t, text)
	}
}

// P18.1: texts that need no quotes, and others.
func TestAstring(t *testing.T) {
	for text, want := range map[string]string{
		"":          `""`,
		"a":         "a",
		"INBOX":     "INBOX",
		"NIL":       "NIL",
		"a/b.c":     "a/b.c",
		"+":         "+",
		"~}|<>=,;:": "~}|<>=,;:",
		"~a":        "~a",
		"a b":       `"a b"`,
		"[":         `"["`,
		"]":         `"]"`,
		"a[b":       `"a[b"`,
		"a]":        `"a]"`,
		"(":         `"("`,
		")":         `")"`,
		"a{":        `"a{"`,
		"%":         `"%"`,
		"*":         `"*"`,
		`"`:         `"\""`,
		`a\`:        `"a\\"`,
		"\x7f":      "{1}\r\n\x7f",
		"a\x00":     "~{2}\r\na\x00",
		"\xc3\x84":  "{2}\r\n\xc3\x84",
	} {
		if got := Astring(text); got != want {
			t.Errorf("Astring(%q) = %q, not %q", text, got, want)
		}
		checkString(t, text)
	}
	long := strings.Repeat("a", 1<<20)
	if got := Astring(long); got != long {
		t.Errorf("Astring of a long atom has %d bytes", len(got))
	}
	checkString(t, long)
	checkString(t, long+"[")
	checkString(t, long+"\x00")
}

// P18.1, P18.4: each byte, by itself and within others, at each length where quotes end, and all short rows of bytes that matter.
func TestAllTexts(t *testing.T) {
	for i := range 256 {
		c := string([]byte{byte(i)})
		for _, n := range []int{0, 1, 998, 999, 1000, 1001} {
			a := strings.Repeat("a", n)
			checkString(t, c+a)
			checkString(t, a+c)
			checkString(t, a[:n/2]+c+a[n/2:])
		}
	}
	eachRow(4, []string{"a", "1", "{", "}", "+", "~", "[", "]", `"`, `\`, " ", "(", "\r", "\n", "\x00", "\xff"}, func(row []string) {
		checkString(t, strings.Join(row, ""))
	})
	checkString(t, allBytes())
	checkString(t, allBytes()[1:])
	checkString(t, strings.Repeat(allBytes()[32:127], 10))
	checkString(t, strings.Repeat(allBytes()[32:127], 11))
}

// P18.2: tokens of texts.
func TestTokens(t *testing.T) {
	word := func(text string) Token { return Token{Word, text} }
	str := func(text string) Token { return Token{Str, text} }
	open, end, space := Token{Kind: Open}, Token{Kind: Close}, Token{Kind: Space}
	for text, want := range map[string][]Token{
		"":                        nil,
		" ":                       {space},
		"()":                      {open, end},
		")( (":                    {end, open, space, open},
		"a":                       {word("a")},
		"a  b":                    {word("a"), space, space, word("b")},
		"a1 uid fetch 1:* (flags": {word("a1"), space, word("uid"), space, word("fetch"), space, word("1:*"), space, open, word("flags")},
		`a(b)c"d"e`:               {word("a"), open, word("b"), end, word("c"), str("d"), word("e")},
		`\Seen`:                   {word(`\Seen`)},
		"!#$%&'*+,-./~|}{`_^]\\@": {word("!#$%&'*+,-./~|}{`_^]\\@")},
		"~":                       {word("~")},
		"a]b":                     {word("a]b")},
		// Quoted texts.
		`""`:                    {str("")},
		`"a b"`:                 {str("a b")},
		`"a\"b\\c"`:             {str(`a"b\c`)},
		`"\\"`:                  {str(`\`)},
		`"a""b"`:                {str("a"), str("b")},
		`"(a)[" ]`:              {str("(a)["), space, word("]")},
		"\"\r\n\x00\xff\"":      {str("\r\n\x00\xff")},
		"\"{1}\r\na\"":          {str("{1}\r\na")},
		"\"a\"{1}\r\nb":         {str("a"), str("b")},
		`"` + `\"` + `\"` + `"`: {str(`""`)},
		// Literals.
		"{0}\r\n":                  {str("")},
		"{1}\r\na":                 {str("a")},
		"{3+}\r\na\r\n":            {str("a\r\n")},
		"~{2}\r\n\x00\xff":         {str("\x00\xff")},
		"~{1+}\r\n\"":              {str(`"`)},
		"{1}\r\nab":                {str("a"), word("b")},
		"{2}\r\na( b":              {str("a("), space, word("b")},
		"{7}\r\n{2}\r\nab{1}\r\nc": {str("{2}\r\nab"), str("c")},
		"{0}\r\n{0+}\r\n":          {str(""), str("")},
		"a{1}\r\nb":                {word("a"), str("b")},
		"a~{1}\r\nb":               {word("a"), str("b")},
		"a~~{1}\r\nb":              {word("a~"), str("b")},
		"~~{1}\r\nb":               {word("~"), str("b")},
		"{{1}\r\nb":                {word("{"), str("b")},
		"{1{1}\r\nb":               {word("{1"), str("b")},
		"~{1}{1}\r\nb":             {word("~{1}"), str("b")},
		"a]{0}\r\n":                {word("a]"), str("")},
		// What looks like one, and is none.
		"{1}":          {word("{1}")},
		"~{1}":         {word("~{1}")},
		"{1}a":         {word("{1}a")},
		"{}":           {word("{}")},
		"{+}":          {word("{+}")},
		"{01}":         {word("{01}")},
		"{4294967296}": {word("{4294967296}")},
		"{1":           {word("{1")},
		"{":            {word("{")},
		// Words with brackets.
		"[]":                              {word("[]")},
		"[a b]c":                          {word("[a b]c")},
		"body[1]<0.5>":                    {word("body[1]<0.5>")},
		"body[header.fields (a b)] flags": {word("body[header.fields (a b)]"), space, word("flags")},
		`[("]" a)]`:                       {word(`[("]" a)]`)},
		`["\"]\\"]"a"`:                    {word(`["\"]\\"]`), str("a")},
		"[\"\r\n\xff\"]":                  {word("[\"\r\n\xff\"]")},
		"[\"{1}\r\n]\"]":                  {word("[\"{1}\r\n]\"]")},
		`[\]`:                             {word(`[\]`)},
		`[\a]`:                            {word(`[\a]`)},
		"[a[b]":                           {word("[a[b]")},
		"[a[b]c]":                         {word("[a[b]c]")},
		"[a][b c]d(e":                     {word("[a][b c]d"), open, word("e")},
		"[a]b(":                           {word("[a]b"), open},
		"[{1}]":                           {word("[{1}]")},
		"[a]{1}\r\nb":                     {word("[a]"), str("b")},
		"a[]~{1}\r\nb":                    {word("a[]"), str("b")},
	} {
		if got, err := Tokens([]byte(text)); err != api.OK || !slices.Equal(got, want) {
			t.Errorf("Tokens(%q) = %s, %d, not %s", text, shown(got), err, shown(want))
		}
		checkTokens(t, text)
	}
}

// P18.2: bytes that are no tokens.
func TestTokensNone(t *testing.T) {
	for _, text := range []string{
		"\x00", "\t", "\r", "\n", "\r\n", "\x1f", "\x7f", "\x80", "\xff", "\xc3\x84", "a\r\n", "a b\n", "a \tb", "a\x7f",
		`"`, `"a`, `a"`, `"a\"`, `"a\`, `"\a"`, `"\ "`, "\"\\\r\"", `"\\\"`, `"a"b"`,
		"{1}\r\n", "{1}\n", "{1}\na", "{1}\r", "{1}\ra", "{2}\r\na", "~{2+}\r\na", "a{2}\r\nb", "{1} \r\na", "{01}\r\na", "{}\r\n", "{+1}\r\na", "{1++}\r\na", "{ 1}\r\na", "{-1}\r\na", "{1a}\r\na", "{1\r\na", "{4294967296}\r\na", "{4294967295}\r\na", "{00}\r\n", "{1+\r\na", "{18446744073709551617}\r\na",
		"[", "a[", "a[b", "[a b", `["]`, `["]"`, `["a\"]`, `["\a"]`, "[\r\n]", "[\t]", "[\x7f]", "[\xff]", "[a\x00]", "[[", "[a]b[", "[{1}\r\n]]", "[{1}\r\na]", "a [", `"a" [`,
	} {
		if got, err := Tokens([]byte(text)); err != api.ErrSyntax || got != nil {
			t.Errorf("Tokens(%q) = %s, %d", text, shown(got), err)
		}
		checkTokens(t, text)
	}
}

// P18.2: each byte in each place, and each two.
func TestEachByte(t *testing.T) {
	for i := range 256 {
		c := string([]byte{byte(i)})
		for _, text := range []string{
			c, "a" + c, c + "a", "a" + c + "b", `"` + c + `"`, `"\` + c + `"`, `"a` + c, "[" + c + "]", "[a" + c + "b]c", `["` + c + `"]`, `["\` + c + `"]`, "[a" + c,
			"{" + c + "}\r\nab", "{1" + c + "}\r\nab", "{1" + c + "\r\nab", c + "{1}\r\nab", "{1}" + c + "\nab", "{1}\r" + c + "ab", "{1}\r\n" + c, "{1}" + c + "\r\nab", "~" + c + "1}\r\nab", "{1}\r\na" + c,
		} {
			checkTokens(t, text)
		}
		for j := range 256 {
			d := string([]byte{byte(j)})
			checkTokens(t, c+d)
			checkTokens(t, `"`+c+d+`"`)
			checkTokens(t, "["+c+d+"]")
		}
	}
	checkTokens(t, allBytes())
	checkTokens(t, "{256}\r\n"+allBytes())
	checkTokens(t, "{257}\r\n"+allBytes())
}

// P18.2: all short rows of pieces, and long ones.
func TestRows(t *testing.T) {
	eachRow(5, []string{"a", " ", `"`, `\`, "[", "]", "(", "{1}\r\n", "~", "\xff"}, func(row []string) {
		checkTokens(t, strings.Join(row, ""))
	})
	eachRow(6, []string{"~", "{", "1", "+", "}", "\r\n", "["}, func(row []string) {
		checkTokens(t, strings.Join(row, ""))
	})
	r := rand.New(rand.NewSource(18))
	pieces := []string{"a", "fetch", " ", " ", "(", ")", `"b c"`, `"\""`, "[d e]", `["]"]`, "{2}\r\n", "~{0}\r\n", "{11+}\r\n", "~", "{", "]"}
	for n := range 2000 {
		checkTokens(t, strings.Join(drawn(r, pieces, n%60), ""))
	}
}

// P18.2: long texts.
func TestLong(t *testing.T) {
	const many = 1 << 20
	for _, text := range []string{"a", "~", "{", "{1", "{1}", "[]", "[[]", `["]"]`} {
		long := strings.Repeat(text, many)
		if got, err := Tokens([]byte(long)); err != api.OK || !slices.Equal(got, []Token{{Word, long}}) {
			t.Fatalf("Tokens of many %q: %d, %d", text, len(got), err)
		}
	}
	for text, want := range map[string]Token{" ": {Kind: Space}, "(": {Kind: Open}, ")": {Kind: Close}, `""`: {Str, ""}, `"\""`: {Str, `"`}, "{0}\r\n": {Str, ""}, "~{1+}\r\n\x00": {Str, "\x00"}} {
		got, err := Tokens([]byte(strings.Repeat(text, many)))
		if err != api.OK || !slices.Equal(got, slices.Repeat([]Token{want}, many)) {
			t.Fatalf("Tokens of many %q: %d, %d", text, len(got), err)
		}
	}
	for _, text := range []string{"[", `"`, `"\`, `["`, "{2097153}\r\n", "\r"} {
		if got, err := Tokens([]byte(strings.Repeat("a ", many) + text + strings.Repeat("b ", many))); err != api.ErrSyntax || got != nil {
			t.Fatalf("Tokens with a broken %q: %d, %d", text, len(got), err)
		}
	}
	body := strings.Repeat("x\r\n", many)
	if got, err := Tokens([]byte("{3145728}\r\n" + body)); err != api.OK || !slices.Equal(got, []Token{{Str, body}}) {
		t.Fatalf("a long literal: %d, %d", len(got), err)
	}
	if got, err := Tokens([]byte("{3145729}\r\n" + body)); err != api.ErrSyntax || got != nil {
		t.Fatalf("a long literal without its last byte: %d, %d", len(got), err)
	}
}

// What is answered is new memory, and the bytes that are handed in stay as they are.
func TestTokensNewMemory(t *testing.T) {
	const text = `a "b\"c" {1}` + "\r\nd [\"\\\"\"]"
	b := []byte(text)
	got, _ := Tokens(b)
	again, _ := Tokens([]byte(text))
	if string(b) != text {
		t.Fatalf("Tokens changed %q", b)
	}
	for i := range b {
		b[i] = 'x'
	}
	if !slices.Equal(got, again) {
		t.Errorf("Tokens keep what was handed in: %s", shown(got))
	}
}
