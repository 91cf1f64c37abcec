package addr

import (
	"regexp"
	"slices"
	"strings"
	"testing"
)

// allBytes are the bytes 0 to 255, in order.
func allBytes() string {
	all := make([]byte, 256)
	for i := range all {
		all[i] = byte(i)
	}
	return string(all)
}

// texts are all texts of at most so many of the pieces.
func texts(pieces []string, most int) []string {
	all := []string{""}
	from := 0
	for range most {
		to := len(all)
		for _, text := range all[from:to] {
			for _, piece := range pieces {
				all = append(all, text+piece)
			}
		}
		from = to
	}
	return all
}

// mixed are n pieces of a list that don't repeat soon, with commas between.
func mixed(n int) string {
	pieces := []string{"a@b", "A \"B\\\"\" <c.d@[e f]>", "", " (x(y)) ", "G: a , <@b,@c:d>, ;", ":;", "\xff\xc3\x84()", "x\")\"[(]\\ y@z", "\"\"@b"}
	all := make([]string, n)
	state := uint32(n) + 1
	for i := range all {
		state = state*1664525 + 1013904223
		all[i] = pieces[state>>24%uint32(len(pieces))]
	}
	return strings.Join(all, ",")
}

// skipForm is the form of what is skipped, with comments of at most so many within each other.
func skipForm(deep int) string {
	comment := `\(`
	for range deep {
		comment = `\((?:[^()\\]|\\(?s:.)|` + comment + `)*(?:\)|\\?\z)`
	}
	return `(?:[\t ]|` + comment + `)*`
}

const (
	signForm   = `[<>:;,@]`
	quotedForm = `"(?:[^"\\]|\\(?s:.))*"`
	bareForm   = `(?:[^\x00- \x7f<>:;,@()"\[]|\[[^\]]*\])+`
	// Forms of rows of letters: a W for each word, and the signs.
	boxForm   = `(?:W*<(?:(?:@W,?)+:)?W+(?:@W)?>|W+(?:@W)?|)`
	groupForm = `W*:` + boxForm + `(?:,` + boxForm + `)*;`
	itemForm  = `(?:` + groupForm + `|` + boxForm + `)`
)

var (
	pieceForm  = regexp.MustCompile(`\A` + skipForm(8) + `(?:(` + signForm + `)|(` + quotedForm + `)|(` + bareForm + `)|\z)`)
	listForm   = regexp.MustCompile(`\A` + itemForm + `(?:,` + itemForm + `)*\z`)
	toldForm   = regexp.MustCompile(`(W*):|(;)|(W*)<(?:[@W,]+:)?(W+)@?(W?)>|(W+)@?(W?)`)
	pairForm   = regexp.MustCompile(`\\((?s:.))`)
	escapeForm = regexp.MustCompile(`["\\]`)
)

// wantedPieces are a text's: a row of letters, and a text for each of these; false: it is none of pieces.
func wantedPieces(s string) (row string, told []string, is bool) {
	for {
		found := pieceForm.FindStringSubmatch(s)
		switch {
		case found == nil:
			return "", nil, false
		case found[1] != "":
			row += found[1]
			told = append(told, "")
		case found[2] != "":
			row += "W"
			told = append(told, pairForm.ReplaceAllString(found[2][1:len(found[2])-1], "$1"))
		case found[3] != "":
			row += "W"
			told = append(told, found[3])
		default:
			return row, told, true
		}
		s = s[len(found[0]):]
	}
}

// wanted is what List should answer, by forms.
func wanted(s string) ([]Address, bool) {
	row, told, is := wantedPieces(s)
	if !is || !listForm.MatchString(row) {
		return nil, false
	}
	return wantedList(row, told), true
}

// wantedList are the addresses of a row of letters that is a list.
func wantedList(row string, told []string) []Address {
	var all []Address
	for _, at := range toldForm.FindAllStringSubmatchIndex(row, -1) {
		group := func(n int, between string) string {
			if at[2*n] < 0 {
				return ""
			}
			return strings.Join(told[at[2*n]:at[2*n+1]], between)
		}
		switch {
		case at[2] >= 0:
			all = append(all, Address{Kind: 1, Name: group(1, " ")})
		case at[4] >= 0:
			all = append(all, Address{Kind: 2})
		default:
			all = append(all, Address{Name: group(3, " "), Local: group(4, "") + group(6, ""), Host: group(5, "") + group(7, "")})
		}
	}
	return all
}

// wantedQuoted is a text between quotes.
func wantedQuoted(s string) string { return `"` + escapeForm.ReplaceAllString(s, `\$0`) + `"` }

// wantedText is what Text should answer.
func wantedText(l []Address) string {
	const between, begun, ending = "\x00", "\x01", "\x02"
	var all []string
	for _, a := range l {
		told := ""
		switch a.Kind {
		case 0:
			told = "<" + wantedQuoted(a.Local) + "@" + a.Host + ">"
			if a.Host == "" {
				told = "<" + wantedQuoted(a.Local) + ">"
			}
			if a.Name != "" {
				told = wantedQuoted(a.Name) + " " + told
			}
		case 1:
			told = wantedQuoted(a.Name) + ":" + begun
		case 2:
			told = ending + ";"
		}
		all = append(all, told)
	}
	text := strings.Join(all, between)
	for _, bare := range []string{begun + between + ending, begun + between, between + ending, begun, ending} {
		text = strings.ReplaceAll(text, bare, "")
	}
	return strings.ReplaceAll(text, between, ", ")
}

// check holds List of a text against what is wanted.
func check(t *testing.T, s string) {
	t.Helper()
	want, wantIs := wanted(s)
	got, is := List(s)
	if !slices.Equal(got, want) || is != wantIs {
		t.Fatalf("List(%q) = %#v, %t, not %#v, %t", s, got, is, want, wantIs)
	}
}

// ofText is a text, and the list that it should be: a row of B, G and E, each with its texts behind it.
type ofText struct {
	text string
	want []string
}

// listOf is the list that a row of kinds and texts tells.
func listOf(row []string) []Address {
	var all []Address
	for len(row) > 0 {
		switch row[0] {
		case "B":
			all = append(all, Address{Kind: Box, Name: row[1], Local: row[2], Host: row[3]})
			row = row[4:]
		case "G":
			all = append(all, Address{Kind: Begin, Name: row[1]})
			row = row[2:]
		default:
			all = append(all, Address{Kind: End})
			row = row[1:]
		}
	}
	return all
}

// checkTexts holds the lists of texts against what is wanted.
func checkTexts(t *testing.T, all []ofText) {
	t.Helper()
	for _, c := range all {
		if got, is := List(c.text); !slices.Equal(got, listOf(c.want)) || !is {
			t.Errorf("List(%q) = %#v, %t, not %#v", c.text, got, is, listOf(c.want))
		}
		check(t, c.text)
	}
}

// checkBroken holds that texts are no lists.
func checkBroken(t *testing.T, all []string) {
	t.Helper()
	for _, text := range all {
		if got, is := List(text); len(got) > 0 || is {
			t.Errorf("List(%q) = %#v, %t", text, got, is)
		}
		check(t, text)
	}
}

// P10.1, P10.2: mailboxes.
func TestBoxes(t *testing.T) {
	checkTexts(t, []ofText{
		{"a@b", []string{"B", "", "a", "b"}},
		{"<a@b>", []string{"B", "", "a", "b"}},
		{"A B <c@d>, e@f", []string{"B", "A B", "c", "d", "B", "", "e", "f"}},
		{"A<c@d>,e@f", []string{"B", "A", "c", "d", "B", "", "e", "f"}},
		{"A B\tC  D (x) E <a@b>", []string{"B", "A B C D E", "a", "b"}},
		{"J. R. <a@b>", []string{"B", "J. R.", "a", "b"}},
		{"Big.Case@Big.Host", []string{"B", "", "Big.Case", "Big.Host"}},
		{"a.b@c.d", []string{"B", "", "a.b", "c.d"}},
		{" a @ b ", []string{"B", "", "a", "b"}},
		{"A < a @ b > ", []string{"B", "A", "a", "b"}},
		// Words of the local part stand one behind the other.
		{"a . b@c", []string{"B", "", "a.b", "c"}},
		{"a b@c", []string{"B", "", "ab", "c"}},
		{"X <a b\t. c@d>", []string{"B", "X", "ab.c", "d"}},
		{"\"a\".\"b\"@c", []string{"B", "", "a.b", "c"}},
		{"a\"b c\"d@e", []string{"B", "", "ab cd", "e"}},
		{"\"a b\"\"c\"@d", []string{"B", "", "a bc", "d"}},
		// A host may be missing, and a name.
		{"a", []string{"B", "", "a", ""}},
		{"a b", []string{"B", "", "ab", ""}},
		{"<a>", []string{"B", "", "a", ""}},
		{"<a b>", []string{"B", "", "ab", ""}},
		{"A <b>", []string{"B", "A", "b", ""}},
		{"a,b", []string{"B", "", "a", "", "B", "", "b", ""}},
	})
}

// P10.1: items that are nothing.
func TestNothing(t *testing.T) {
	checkTexts(t, []ofText{
		{"", nil},
		{" \t", nil},
		{"(a@b)", nil},
		{"(a@b", nil},
		{",", nil},
		{" , (x),,", nil},
		{",a@b", []string{"B", "", "a", "b"}},
		{"a@b,", []string{"B", "", "a", "b"}},
		{"a@b,,c@d", []string{"B", "", "a", "b", "B", "", "c", "d"}},
		{",,a@b, ,(x),c@d,,", []string{"B", "", "a", "b", "B", "", "c", "d"}},
	})
}

// P10.1, P10.2: groups.
func TestGroups(t *testing.T) {
	checkTexts(t, []ofText{
		{"G: a@b;", []string{"G", "G", "B", "", "a", "b", "E"}},
		{"G: a@b, C <d@e>;", []string{"G", "G", "B", "", "a", "b", "B", "C", "d", "e", "E"}},
		{"G:;", []string{"G", "G", "E"}},
		{":;", []string{"G", "", "E"}},
		{" : ; ", []string{"G", "", "E"}},
		{":a;", []string{"G", "", "B", "", "a", "", "E"}},
		{"A \"B C\" D: a b;", []string{"G", "A B C D", "B", "", "ab", "", "E"}},
		{"\"\":;", []string{"G", "", "E"}},
		{"G:,;", []string{"G", "G", "E"}},
		{"G:,,a,,b,;", []string{"G", "G", "B", "", "a", "", "B", "", "b", "", "E"}},
		{"(x)G(x):(x)a@b(x);(x)", []string{"G", "G", "B", "", "a", "b", "E"}},
		{"G:;,H:;", []string{"G", "G", "E", "G", "H", "E"}},
		{"G:;,", []string{"G", "G", "E"}},
		{",G:;", []string{"G", "G", "E"}},
		{"a@b, G: <@x:c@d>;, e", []string{"B", "", "a", "b", "G", "G", "B", "", "c", "d", "E", "B", "", "e", ""}},
		{"G:<a>;,<b>", []string{"G", "G", "B", "", "a", "", "E", "B", "", "b", ""}},
	})
	checkBroken(t, []string{
		"G:", "G:a", "G:a@b", "G:a@b,", "G:a@b,c", ";", "a;", "a@b;", "<a>;", ";;", ",;",
		"G:;;", "G:;a", "G:;<a>", "G:;:;", "G:;H:;", "G:;@a", "G:;>", "G:;\"a\"", "G:; x, a@b",
		"G:a:;", "G:a:;;", "G::;", "G::;;", "G:H:;;", "G:H:a;,b;", "G:a,H:;", "G:a,:;", "G:<a>:;", "G:a@b:;",
		"G@a:;", "<G>:;", "G:@a;", "G:a@;", "G:a@b c;", "G:<;", "G:<a;", "G:<a>b;", "G:<>;",
		"G:a(;", "G:a(x);y(;", "G:a;\x00", "\x00G:a;", "G<a:;>", "<a:;>",
	})
}

// P10.1: ways, which count for nothing.
func TestWays(t *testing.T) {
	checkTexts(t, []ofText{
		{"<@a:b@c>", []string{"B", "", "b", "c"}},
		{"<@a:b>", []string{"B", "", "b", ""}},
		{"X <@a,@b:c@d>", []string{"B", "X", "c", "d"}},
		{"<@a@b:c@d>", []string{"B", "", "c", "d"}},
		{"<@a,:b@c>", []string{"B", "", "b", "c"}},
		{"<@a,@b,:c@d>", []string{"B", "", "c", "d"}},
		{"<@a@b,@c:d>", []string{"B", "", "d", ""}},
		{"< @ a , (x) @ \"b c\" : d e @ f >", []string{"B", "", "de", "f"}},
		{"<@[a:b]:c@d>", []string{"B", "", "c", "d"}},
		{"<@a:b@c>,<@d:e@f>", []string{"B", "", "b", "c", "B", "", "e", "f"}},
		{"G:<@a,@b:c>,d;", []string{"G", "G", "B", "", "c", "", "B", "", "d", "", "E"}},
	})
	checkBroken(t, []string{
		"<@a>", "<@a,>", "<@a b@c>", "<@a:>", "<@a:@b>", "<@a:@b:c>", "<@:b>", "<@,:b>", "<@,@a:b>", "<:b>", "<,:b>", "<,@a:b>",
		"<@a,,:b>", "<@a,,@b:c>", "<@a b:c>", "<@a,b:c>", "<@@a:b>", "<@a@:b>", "<@a::b>", "<@a;b>", "<b@a:c>", "<@a:b:c>", "<@a,@b@c>",
		"@a:b", "@a:b@c", "@a:<b>", "X @a:<b>", "@a,@b:c@d", "<@a:b", "<@a:b,c>",
	})
}

// P10.1: texts that are no lists.
func TestBroken(t *testing.T) {
	checkBroken(t, []string{
		"@", "@a", "a@", "a@,b", "a@b@c", "a@@b", "a@b c", "a@b \"c\"", "a@b . c", "a@b,@", "a@b,@c", ",@", "\"\"@",
		"<", ">", "<>", "< >", "A <>", "<a", "<a@b", "a>", "a@b>", "<a@>", "<@>", "<@b>", "<a@b c>", "<a@b@c>", "<a,b>", "<a;>", "<a:b>",
		"<<a>>", "<a<b>>", "<a>>", "A <a> B", "<a>b", "<a>@b", "<a><b>", "<a> <b>", "a@b<c>", "a@<b>", "A@B <c@d>", "A,B <c@d", "<a@b>(x)c", "<a>\"b\"",
		":", "a:", "a:b", "::", "a:b@c", "<a>:", ";",
		"a@b, c@", "a@b, \"", "a@b\x00", "a@b, c\x7f", "a@b\r\n", "\r\na@b", "a@b,\n c@d", "a)", ")", "a@b)", "a\x1fb", "a@b\v",
		"\"", "\"a", "\"a\\", "\"a\\\"", "a@b \"", "a@\"b", "[", "[a", "a[", "a[b", "a@[b", "a@b[c", "<[a>", "[a]]b[", "[[a]b[", "a@[b, c@d",
		"[](x)[",
	})
}

// P10.1: words that aren't quoted.
func TestBareWords(t *testing.T) {
	checkTexts(t, []ofText{
		{"!#$%&'*+-./09=?^_`{|}~", []string{"B", "", "!#$%&'*+-./09=?^_`{|}~", ""}},
		{"a\\b@\\", []string{"B", "", "a\\b", "\\"}},
		{"\\(a)b@c", []string{"B", "", "\\b", "c"}},
		{"\\\"a b\"@c", []string{"B", "", "\\a b", "c"}},
		{"]@a]b", []string{"B", "", "]", "a]b"}},
		{"\x80\xff\xc3\x84@\xc2\xa0", []string{"B", "", "\x80\xff\xc3\x84", "\xc2\xa0"}},
		{"=?utf-8?q?a=20b?= <c@d>", []string{"B", "=?utf-8?q?a=20b?=", "c", "d"}},
		// A [ goes on up to its first ], with all between.
		{"a@[1.2.3.4]", []string{"B", "", "a", "[1.2.3.4]"}},
		{"a@[IPv6:1::2]", []string{"B", "", "a", "[IPv6:1::2]"}},
		{"a@[]", []string{"B", "", "a", "[]"}},
		{"a@[ b\t]", []string{"B", "", "a", "[ b\t]"}},
		{"a@[<>:;,@()\"\\ \x00\r\n\x7f\xff]", []string{"B", "", "a", "[<>:;,@()\"\\ \x00\r\n\x7f\xff]"}},
		{"a@b[c d]e", []string{"B", "", "a", "b[c d]e"}},
		{"a@[b][, ]", []string{"B", "", "a", "[b][, ]"}},
		{"a@[b[c]", []string{"B", "", "a", "[b[c]"}},
		{"a@[b[c]]", []string{"B", "", "a", "[b[c]]"}},
		{"a@[b\\]", []string{"B", "", "a", "[b\\]"}},
		{"a@[b\\],c@d]", []string{"B", "", "a", "[b\\]", "B", "", "c", "d]"}},
		{"[a b] [c] <[<]@[>]>", []string{"B", "[a b] [c]", "[<]", "[>]"}},
		{"[:]:[;];", []string{"G", "[:]", "B", "", "[;]", "", "E"}},
	})
}

// P10.1, P10.2: words that are quoted: the bytes that they tell.
func TestQuotedWords(t *testing.T) {
	checkTexts(t, []ofText{
		{"\"a b\"@c", []string{"B", "", "a b", "c"}},
		{"\"A B\" <c@d>", []string{"B", "A B", "c", "d"}},
		{"\"A\"\"B\"<c@d>", []string{"B", "A B", "c", "d"}},
		{"A\"B\"C <c@d>", []string{"B", "A B C", "c", "d"}},
		{"\" A \" <c@d>", []string{"B", " A ", "c", "d"}},
		{"\"a\\\"b\\\\c\\d\"@e", []string{"B", "", "a\"b\\cd", "e"}},
		{"\"\\\\\"@e", []string{"B", "", "\\", "e"}},
		{"\"<>:;,@()[\"@b", []string{"B", "", "<>:;,@()[", "b"}},
		{"\"\r\n\x00\x7f\xff\\\xc3\\\n\"@b", []string{"B", "", "\r\n\x00\x7f\xff\xc3\n", "b"}},
		{"a@\"b c\"", []string{"B", "", "a", "b c"}},
		{"a@\"\"", []string{"B", "", "a", ""}},
		{"\"\"@a", []string{"B", "", "", "a"}},
		{"\"\"", []string{"B", "", "", ""}},
		{"<\"\">", []string{"B", "", "", ""}},
		{"\"\" <a>", []string{"B", "", "a", ""}},
		{"\"\" A \"\" <a>", []string{"B", " A ", "a", ""}},
		{"\"a\", \"b\"", []string{"B", "", "a", "", "B", "", "b", ""}},
		{"\"G:\": \";\";", []string{"G", "G:", "B", "", ";", "", "E"}},
	})
	// Words end where a quote begins, and nothing ahead of it counts for what is quoted.
	checkTexts(t, []ofText{
		{"\"(\"(x)\")\"", []string{"B", "", "()", ""}},
		{"\"[\"]\"]\"", []string{"B", "", "[]]", ""}},
		{"[\"]\"[\"", []string{"B", "", "[\"][", ""}},
	})
}

// P10.1: what is skipped: blanks, comments, comments in them, bytes behind a \, and what isn't ended.
func TestSkipped(t *testing.T) {
	box := []string{"B", "", "ab", "c"}
	checkTexts(t, []ofText{
		{"(x)a(x)b(x)@(x)c(x)", box},
		{"(x) \t(y)a\tb @\t c", box},
		{"a()b@c", box},
		{"a(x(y)z)b@c", box},
		{"a((x)(y))b@c", box},
		{"a(\\))b@c", box},
		{"a(\\()b@c", box},
		{"a(\\\\)b@c", box},
		{"a(\")b@c", box},
		{"a(\")b(\")@c", box},
		{"a([)b@c", box},
		{"a(\xff\x00\r\n\x7f)b@c", box},
		{"a(\\\xff\\\xc3\x84)b@c", box},
		{"a(,;:<>@)b@c", box},
		{"G(:a;", []string{"B", "", "G", ""}},
		{"a b@c(", box},
		{"a b@c(x", box},
		{"a b@c(x(y)", box},
		{"a b@c(x\\)", box},
		{"a b@c(x\\", box},
		{"a b@c(x),(y", box},
		{"a b@c((x),d@e", box},
		{"(a) b (c) <(d) e (f) @ (g) h (i)> (j)", []string{"B", "b", "e", "h"}},
	})
	checkBroken(t, []string{"a b@(c", "a b@(c)", "a b@c(x))", "a b@c)", "<a(x", "<a(x>", "G:a(x;", "a@b(x)c", "a\r b@c", "a\nb@c", "a\vb@c"})
}

// P10.1, P10.2: all short texts of bytes that matter.
func TestAllShort(t *testing.T) {
	for _, text := range texts([]string{"a", " ", "\"", "\\", "(", ")", "[", "]", "@", ","}, 5) {
		check(t, text)
	}
	for _, text := range texts([]string{"\"", "\\", "(", ")", "[", "]", "b"}, 6) {
		check(t, "a"+text+"@c,d")
	}
}

// P10.1, P10.2: all short rows of words and signs.
func TestAllRows(t *testing.T) {
	for _, text := range texts([]string{"W", "<", ">", ":", ";", ",", "@"}, 6) {
		for _, row := range []string{text, "WW<@" + text, "W:W@W," + text, "<W>," + text} {
			told := strings.Split(row, "")
			var want []Address
			wantIs := listForm.MatchString(row)
			if wantIs {
				want = wantedList(row, told)
			}
			// Words that stand side by side need a blank between.
			text := strings.ReplaceAll(row, "W", "W ")
			if got, is := List(text); !slices.Equal(got, want) || is != wantIs {
				t.Fatalf("List(%q) = %#v, %t, not %#v, %t", text, got, is, want, wantIs)
			}
		}
	}
}

// P10.1: each byte in each place.
func TestEachByte(t *testing.T) {
	for i := range 256 {
		c := string([]byte{byte(i)})
		for _, text := range []string{
			c, c + "a", "a" + c, "a" + c + "b", "a" + c + "b@c", "a@" + c, "a@b" + c, "a@b" + c + "c", "a@b," + c,
			c + "<a>", "A" + c + "<a>", "<" + c + "a>", "<a" + c + ">", "<a>" + c, "<a@b" + c + ">", "<@a" + c + ":b>", "<" + c + "@a:b>",
			"G" + c + ":;", "G:" + c + ";", "G:a" + c + ";", "G:;" + c, "a[" + c + "]", "a[" + c, "[a]" + c, "a(" + c + ")", "a(\\" + c + ")", "a(" + c,
			"\"" + c + "\"", "\"\\" + c + "\"", "\"" + c, "\"\\" + c, "\"a\"" + c + "\"b\"",
		} {
			check(t, text)
		}
	}
	check(t, allBytes())
	check(t, wantedQuoted(allBytes())+"@b")
	check(t, "a@["+allBytes()+"]")
	for _, n := range []int{1, 2, 3, 10, 99, 1000} {
		check(t, mixed(n))
	}
}

// P10.1, P10.2: long texts.
func TestLong(t *testing.T) {
	const many = 1 << 16
	deep := strings.Repeat("(", many) + strings.Repeat(")", many)
	for text, want := range map[string][]Address{
		"a" + deep + "b@c":                                       {{Local: "ab", Host: "c"}},
		"a(" + deep + "b@c":                                      {{Local: "a"}},
		strings.Repeat("a ", many):                               {{Local: strings.Repeat("a", many)}},
		strings.Repeat("a ", many) + ":;":                        {{Kind: Begin, Name: strings.Repeat("a ", many-1) + "a"}, {Kind: End}},
		"<" + strings.Repeat("@a,", many) + ":b>":                {{Local: "b"}},
		strings.Repeat(",", many):                                nil,
		"[" + strings.Repeat("[", many) + "]":                    {{Local: "[" + strings.Repeat("[", many) + "]"}},
		"a@\"" + strings.Repeat("\\\"", many) + "\"":             {{Local: "a", Host: strings.Repeat("\"", many)}},
		strings.Repeat("(x)", many) + strings.Repeat("[]", many): {{Local: strings.Repeat("[]", many)}},
	} {
		if got, is := List(text); !slices.Equal(got, want) || !is {
			t.Errorf("List of %d bytes: %d addresses, %t", len(text), len(got), is)
		}
	}
	for _, text := range []string{"a" + deep[1:] + "b", strings.Repeat("[", many), strings.Repeat("a", many) + "\x00", strings.Repeat("<", many), strings.Repeat("G:", many), strings.Repeat("G:;", many), "<" + strings.Repeat("@a,", many) + "b>"} {
		if got, is := List(text); len(got) > 0 || is {
			t.Errorf("List of %d broken bytes: %d addresses, %t", len(text), len(got), is)
		}
	}
	got, is := List(strings.Repeat("G:A <b@c>,;,", many))
	if !is || len(got) != 3*many || !slices.Equal(got[len(got)-3:], listOf([]string{"G", "G", "B", "A", "b", "c", "E"})) {
		t.Errorf("many groups: %d, %t", len(got), is)
	}
}

// P10.3: lists as texts.
func TestText(t *testing.T) {
	for _, c := range []struct {
		list []string
		want string
	}{
		{nil, ""},
		{[]string{"B", "", "a", "b"}, `<"a"@b>`},
		{[]string{"B", "A", "a", "b"}, `"A" <"a"@b>`},
		{[]string{"B", "A B", "c", "d", "B", "", "e", "f"}, `"A B" <"c"@d>, <"e"@f>`},
		{[]string{"B", "A", "b", ""}, `"A" <"b">`},
		{[]string{"B", "", "", ""}, `<"">`},
		{[]string{"B", "", "", "b"}, `<""@b>`},
		{[]string{"B", `A "B" \`, `a"\b`, "c"}, `"A \"B\" \\" <"a\"\\b"@c>`},
		{[]string{"B", " ", "a", "[b \\\" c]"}, `" " <"a"@[b \" c]>`},
		{[]string{"B", "\x00", "\xff\r\n", "\x00\""}, "\"\x00\" <\"\xff\r\n\"@\x00\">"},
		{[]string{"G", "A", "E"}, `"A":;`},
		{[]string{"G", "", "E"}, `"":;`},
		{[]string{"G", `"\`, "E"}, `"\"\\":;`},
		{[]string{"G", "A", "B", "", "a", "b", "E"}, `"A":<"a"@b>;`},
		{[]string{"G", "A", "B", "", "a", "", "B", "", "b", "", "E"}, `"A":<"a">, <"b">;`},
		{[]string{"B", "", "a", "", "G", "A", "E", "B", "", "b", ""}, `<"a">, "A":;, <"b">`},
		{[]string{"G", "A", "E", "G", "B", "E"}, `"A":;, "B":;`},
		{[]string{"G", "A"}, `"A":`},
		{[]string{"E"}, `;`},
		{[]string{"E", "E"}, `;;`},
		{[]string{"G", "A", "G", "B"}, `"A":"B":`},
		{[]string{"E", "B", "", "a", "", "G", "A"}, `;, <"a">, "A":`},
	} {
		if got := Text(listOf(c.list)); got != c.want {
			t.Errorf("Text(%#v) = %q, not %q", c.list, got, c.want)
		}
	}
}

// P10.3: addresses of other kinds tell nothing, though they are between others.
func TestTextOfOthers(t *testing.T) {
	box := Address{Name: "A", Local: "a", Host: "b"}
	for _, kind := range []int{-1, 3, 4, 255, 256, 1 << 40, -1 << 40} {
		other := Address{Kind: kind, Name: "X", Local: "y", Host: "z"}
		for _, c := range []struct {
			list []Address
			want string
		}{
			{[]Address{other}, ""},
			{[]Address{other, other}, ", "},
			{[]Address{box, other}, `"A" <"a"@b>, `},
			{[]Address{other, box}, `, "A" <"a"@b>`},
			{[]Address{{Kind: Begin, Name: "G"}, other, {Kind: End}}, `"G":;`},
			{[]Address{{Kind: Begin, Name: "G"}, other, box, {Kind: End}}, `"G":, "A" <"a"@b>;`},
		} {
			if got := Text(c.list); got != c.want {
				t.Errorf("Text(%#v) = %q, not %q", c.list, got, c.want)
			}
		}
	}
	// What a Begin or an End has beside what it tells counts for nothing.
	if got := Text([]Address{{Kind: Begin, Name: "G", Local: "a", Host: "b"}, {Kind: End, Name: "G", Local: "a", Host: "b"}}); got != `"G":;` {
		t.Errorf("Text of a group with more = %q", got)
	}
}

// P10.3: all short lists of addresses of each kind, and each byte in each place.
func TestAllTexts(t *testing.T) {
	some := []Address{{Local: "a"}, {Name: "A", Local: "b", Host: "c"}, {Kind: Begin, Name: "G"}, {Kind: Begin}, {Kind: End}, {Kind: 3, Name: "A"}}
	for _, row := range texts([]string{"0", "1", "2", "3", "4", "5"}, 5) {
		var list []Address
		for _, place := range row {
			list = append(list, some[place-'0'])
		}
		if got, want := Text(list), wantedText(list); got != want {
			t.Fatalf("Text(%#v) = %q, not %q", list, got, want)
		}
	}
	for i := range 256 {
		c := string([]byte{byte(i)})
		got := Text([]Address{{Kind: Begin, Name: c}, {Name: c, Local: c, Host: c}})
		want := wantedQuoted(c) + ":" + wantedQuoted(c) + " <" + wantedQuoted(c) + "@" + c + ">"
		if got != want {
			t.Errorf("Text of %q = %q, not %q", c, got, want)
		}
	}
}

// P10.4: a text of boxes whose hosts are words is a list of them.
func TestFollows(t *testing.T) {
	hosts := append(texts([]string{"b", ".", "\\", "]", "\xff", "[]", "[ \"<>,@(]", "[\\]"}, 2), "B.c", "[1.2.3.4]", strings.Repeat("x", 1<<16))
	local := append(texts([]string{"\"", "\\", "a", " ", ",", "@", ">", "(", "[", "\r\n"}, 3), allBytes(), strings.Repeat("\\\"", 1<<16))
	var all []Address
	for place, text := range local {
		host := hosts[place%len(hosts)]
		other := local[(place*7+1)%len(local)]
		list := []Address{{Name: text, Local: other, Host: host}, {Name: other, Local: text}, {Local: text, Host: host}}
		if got, is := List(Text(list)); !is || !slices.Equal(got, list) {
			t.Fatalf("List(%q) = %#v, %t, not %#v", Text(list), got, is, list)
		}
		all = append(all, list...)
	}
	for _, host := range hosts {
		all = append(all, Address{Name: "A", Local: "a", Host: host})
	}
	if got, is := List(Text(all)); !is || !slices.Equal(got, all) {
		t.Errorf("a long list: %d of %d, %t", len(got), len(all), is)
	}
	// Groups of them are lists, too.
	group := append(append([]Address{{Kind: Begin, Name: allBytes()}}, all...), Address{Kind: End}, Address{Kind: Begin}, Address{Kind: End})
	if got, is := List(Text(group)); !is || !slices.Equal(got, group) {
		t.Errorf("a group: %d of %d, %t", len(got), len(group), is)
	}
}

// What is answered is new memory, what is handed in stays, and the same calls have the same answers.
func TestNewMemory(t *testing.T) {
	const text = "A <a@b>, G: c;"
	want := listOf([]string{"B", "A", "a", "b", "G", "G", "B", "", "c", "", "E"})
	first, _ := List(text)
	for i := range first {
		first[i] = Address{Kind: 7, Name: "x"}
	}
	again, is := List(text)
	if !is || !slices.Equal(again, want) {
		t.Errorf("a list that was answered is kept: %#v", again)
	}
	told := Text(again)
	if !slices.Equal(again, want) || told != Text(want) {
		t.Errorf("a list that was handed in: %#v", again)
	}
}
