package structure

import (
	"math"
	"math/rand"
	"reflect"
	"slices"
	"strconv"
	"strings"
	"testing"

	"letterbox/api"
	"letterbox/tree"
)

// ascii is how the type of what tells none is told.
const ascii = `"text" "plain" ("charset" "us-ascii")`

// P20.1, P20.2: whole messages, in both ways.
func TestPut(t *testing.T) {
	for _, c := range []struct{ text, body, all string }{
		{"\nx", `(` + ascii + ` NIL NIL "7bit" 1 1)`, `(` + ascii + ` NIL NIL "7bit" 1 1 NIL NIL NIL NIL)`},
		{"", `(` + ascii + ` NIL NIL "7bit" 0 0)`, `(` + ascii + ` NIL NIL "7bit" 0 0 NIL NIL NIL NIL)`},
		{"x", `(` + ascii + ` NIL NIL "7bit" 0 0)`, `(` + ascii + ` NIL NIL "7bit" 0 0 NIL NIL NIL NIL)`},
		{
			"Content-Type: Text/HTML; charset=\"a b\"; x*=''%41\r\nContent-ID: <1@x>\r\nContent-Description: a\r\n \"b\"\r\n" +
				"Content-Transfer-Encoding: Quoted-Printable\r\nContent-MD5: Q2hlY2s=\r\nContent-Disposition: Inline; FileName=c\r\n" +
				"Content-Language: en, de\r\nContent-Location: http://x/\r\n\r\na\r\nb=3D\nc",
			`("text" "html" ("charset" "a b" "x" "A") "<1@x>" "a \"b\"" "quoted-printable" 9 3)`,
			`("text" "html" ("charset" "a b" "x" "A") "<1@x>" "a \"b\"" "quoted-printable" 9 3 "Q2hlY2s=" ("inline" ("filename" "c")) "en, de" "http://x/")`,
		},
		{
			"Content-Type: image/png\nContent-Transfer-Encoding: base64\nContent-Disposition: attachment\n\nQUI=\n",
			`("image" "png" NIL NIL NIL "base64" 5)`,
			`("image" "png" NIL NIL NIL "base64" 5 NIL ("attachment" NIL) NIL NIL)`,
		},
		{
			"Content-Type: multipart/mixed; boundary=x\nContent-ID: a\nContent-MD5: b\nContent-Language: c\nContent-Location: d\nContent-Disposition: e\n\npre\n--x\n\na\n--x\nContent-Type: a/b\n\nb\nc\n--x--\npost\n",
			`((` + ascii + ` NIL NIL "7bit" 1 1)("a" "b" NIL NIL NIL "7bit" 3) "mixed")`,
			`((` + ascii + ` NIL NIL "7bit" 1 1 NIL NIL NIL NIL)("a" "b" NIL NIL NIL "7bit" 3 NIL NIL NIL NIL) "mixed" ("boundary" "x") ("e" NIL) "c" "d")`,
		},
		{
			"Content-Type: message/rfc822\n\nSubject: s\nFrom: a@b\n\nx\ny\n",
			`("message" "rfc822" NIL NIL NIL "7bit" 26 (NIL "s" ((NIL NIL "a" "b")) ((NIL NIL "a" "b")) ((NIL NIL "a" "b")) NIL NIL NIL NIL NIL) (` + ascii + ` NIL NIL "7bit" 4 2) 5)`,
			`("message" "rfc822" NIL NIL NIL "7bit" 26 (NIL "s" ((NIL NIL "a" "b")) ((NIL NIL "a" "b")) ((NIL NIL "a" "b")) NIL NIL NIL NIL NIL) (` + ascii + ` NIL NIL "7bit" 4 2 NIL NIL NIL NIL) 5 NIL NIL NIL NIL)`,
		},
		{
			"Content-Type: multipart/digest; boundary=x\n\n--x\n\n\na\n--x\nContent-Type: multipart/y; boundary=y\n\n--y\nContent-Type: text/z\n\n--x--",
			`(("message" "rfc822" NIL NIL NIL "7bit" 2 (NIL NIL NIL NIL NIL NIL NIL NIL NIL NIL) (` + ascii + ` NIL NIL "7bit" 1 1) 2)(("text" "z" NIL NIL NIL "7bit" 0 0) "y") "digest")`,
			`(("message" "rfc822" NIL NIL NIL "7bit" 2 (NIL NIL NIL NIL NIL NIL NIL NIL NIL NIL) (` + ascii + ` NIL NIL "7bit" 1 1 NIL NIL NIL NIL) 2 NIL NIL NIL NIL)` +
				`(("text" "z" NIL NIL NIL "7bit" 0 0 NIL NIL NIL NIL) "y" ("boundary" "y") NIL NIL NIL) "digest" ("boundary" "x") NIL NIL NIL)`,
		},
		{
			"Content-Type: message/rfc822; a=b\nContent-Transfer-Encoding: base64\n\nQUI=",
			`("application" "octet-stream" NIL NIL NIL "base64" 4)`,
			`("application" "octet-stream" NIL NIL NIL "base64" 4 NIL NIL NIL NIL)`,
		},
		{
			"Content-Type: multipart/mixed; boundary=x\nContent-Type: text/plain\n\n--x--\n",
			`("application" "octet-stream" NIL NIL NIL "7bit" 6)`,
			`("application" "octet-stream" NIL NIL NIL "7bit" 6 NIL NIL NIL NIL)`,
		},
	} {
		p := parse(t, c.text)
		checkPut(t, c.text, p, false, c.body)
		checkPut(t, c.text, p, true, c.all)
		check(t, c.text, p)
	}
}

// P20.1: types by what tells them, and by the kinds of parts.
func TestKind(t *testing.T) {
	plain := [3]string{"text", "plain", `("charset" "us-ascii")`}
	octets := [3]string{"application", "octet-stream", "NIL"}
	mixed := [3]string{"multipart", "mixed", "NIL"}
	whole := [3]string{"message", "rfc822", "NIL"}
	for _, c := range []struct {
		head                 string
		leaf, multi, message [3]string
	}{
		{"", plain, mixed, whole},
		{"Subject: text/html\n", plain, mixed, whole},
		{"Content-Type:\n", plain, mixed, whole},
		{"Content-Type: text\n", plain, mixed, whole},
		{"Content-Type: multipart\n", plain, mixed, whole},
		{"Content-Type: multipart/\n", plain, mixed, whole},
		{"Content-Type: message/\n", plain, mixed, whole},
		{"Content-Type: (multipart/x\n", plain, mixed, whole},
		{"Content-Type:\nContent-Type: a/b\n", plain, mixed, whole},
		{"\nContent-Type: a/b\n", plain, mixed, whole},
		{"Content-Type: text/html\n", [3]string{"text", "html", "NIL"}, mixed, whole},
		{"content-type : TEXT/Html;Charset=\"Q\"\r\n", [3]string{"text", "html", `("charset" "Q")`}, mixed, whole},
		{"CONTENT-TYPE: a/b; c=d; c=e; f=\"\"", [3]string{"a", "b", `("c" "d" "f" "")`}, mixed, whole},
		{"Content-Type: a/b; c=d\nContent-Type: multipart/e; f=g\n", [3]string{"a", "b", `("c" "d")`}, mixed, whole},
		{"Content-Type: a/multipart\n", [3]string{"a", "multipart", "NIL"}, mixed, whole},
		{"Content-Type: multiparts/a\n", [3]string{"multiparts", "a", "NIL"}, mixed, whole},
		{"Content-Type: multipar/a\n", [3]string{"multipar", "a", "NIL"}, mixed, whole},
		{"Content-Type: message/rfc82\n", [3]string{"message", "rfc82", "NIL"}, mixed, whole},
		{"Content-Type: message/rfc8222\n", [3]string{"message", "rfc8222", "NIL"}, mixed, whole},
		{"Content-Type: message/partial; id=x\n", [3]string{"message", "partial", `("id" "x")`}, mixed, whole},
		{"Content-Type: messages/rfc822\n", [3]string{"messages", "rfc822", "NIL"}, mixed, whole},
		{"Content-Type: text/rfc822\n", [3]string{"text", "rfc822", "NIL"}, mixed, whole},
		{"Content-Type: rfc822/message\n", [3]string{"rfc822", "message", "NIL"}, mixed, whole},
		{"Content-Type: multipart/mixed\n", octets, [3]string{"multipart", "mixed", "NIL"}, whole},
		{"Content-Type: MULTIPART/Report; A=b\n", octets, [3]string{"multipart", "report", `("a" "b")`}, whole},
		{"Content-Type: multipart/rfc822\n", octets, [3]string{"multipart", "rfc822", "NIL"}, whole},
		{"Content-Type: multipart/x;\r\n boundary=\"a\\\"b\"\n", octets, [3]string{"multipart", "x", `("boundary" "a\"b")`}, whole},
		{"Content-Type: message/rfc822\n", octets, mixed, whole},
		{"Content-Type: Message/RFC822; A=B\n", octets, mixed, [3]string{"message", "rfc822", `("a" "B")`}},
		{"Content-Type: message (x) / (y) rfc822 (z)\n", octets, mixed, whole},
		{"Content-Type: message/rfc822 and more\n", octets, mixed, whole},
	} {
		for _, kind := range []int{tree.Leaf, tree.Multi, tree.Message, 3, -1, math.MaxInt, math.MinInt} {
			want := c.leaf
			switch kind {
			case tree.Multi:
				want = c.multi
			case tree.Message:
				want = c.message
			}
			p := of(kind, c.head)
			var got [3]string
			got[0], got[1], got[2] = Kind([]byte(c.head), p)
			if got != want {
				t.Errorf("Kind of %q, of kind %d: %q, not %q", c.head, kind, got, want)
			}
			check(t, c.head, p)
		}
	}
}

// P20.1: parameters, with all bytes, in long rows, and at the edge of strings that stand between quotes.
func TestPairs(t *testing.T) {
	for _, c := range []struct{ parameters, want string }{
		{"", "NIL"}, {";", "NIL"}, {"; a", "NIL"}, {"; a=", "NIL"}, {"; a=\"b", "NIL"}, {"; =b", "NIL"}, {"; *=b", "NIL"}, {"; a*1=b", "NIL"},
		{"; a=b", `("a" "b")`}, {";A=B;c=D", `("a" "B" "c" "D")`}, {"; a=\"\"", `("a" "")`}, {"; a=\"b c\"", `("a" "b c")`},
		{`; a="\"\\"`, `("a" "\"\\")`}, {"; a=NIL", `("a" "NIL")`}, {"; nil=(", "NIL"}, {"; a=\")(\"", `("a" ")(")`},
		{"; a*='x'%25%22", `("a" "%\"")`}, {"; a*=%0d%0a", "(\"a\" {2}\r\n\r\n)"}, {"; a*=%00", "(\"a\" ~{1}\r\n\x00)"}, {"; a=\"é\"", "(\"a\" {2}\r\né)"},
		{"; b*1=y; a=z; b*0=x; b*3=w", `("b" "xy" "a" "z")`}, {"; a=b c; d=e", `("a" "b")`}, {"; {1}=x", `("{1}" "x")`},
		{"; a=" + strings.Repeat("x", 1000), `("a" "` + strings.Repeat("x", 1000) + `")`},
		{"; a=" + strings.Repeat("x", 1001), "(\"a\" {1001}\r\n" + strings.Repeat("x", 1001) + ")"},
		{"; " + strings.Repeat("x", 1001) + "=a", "({1001}\r\n" + strings.Repeat("x", 1001) + " \"a\")"},
	} {
		for kind, name := range []string{"x/y", "multipart/x", "message/rfc822"} {
			text := "Content-Type: " + name + c.parameters + "\nContent-Disposition: x" + c.parameters + "\n"
			p := of(kind, text)
			if _, _, got := Kind([]byte(text), p); got != c.want {
				t.Errorf("Kind of %.300q: %.300q, not %.300q", text, got, c.want)
			}
			check(t, text, p)
		}
		checkRest(t, "Content-Disposition: x"+c.parameters+"\n", `("x" `+c.want+`) NIL NIL`)
	}
	for n := range 256 {
		c := string([]byte{byte(n)})
		for _, value := range []string{"; a=" + c, "; a=\"" + c + "\"", "; a=\"\\" + c + "\"", ";" + c + "=b", "; a" + c + "=b", c, "; a*=%" + strconv.FormatInt(int64(n)+256, 16)[1:]} {
			for kind, name := range []string{"x/y", "multipart/x", "message/rfc822"} {
				check(t, "Content-Type: "+name+value+"\n", of(kind, "Content-Type: "+name+value+"\n"))
			}
		}
		check(t, "Content-Type: te"+c+"xt/x"+c+"y\n", of(0, "Content-Type: te"+c+"xt/x"+c+"y\n"))
		check(t, "Content-Disposition: x"+c+"\n", of(1, "Content-Disposition: x"+c+"\n"))
	}
}

// checkRest holds what all parts end with against what is wanted, in parts of all kinds.
func checkRest(t *testing.T, head, want string) {
	t.Helper()
	digits := strconv.Itoa(len(head))
	text := head + "\n"
	leaf := tree.Part{Kind: tree.Leaf, Head: span(0, len(text)), Body: span(0, len(head))}
	checkPut(t, text, tree.Part{Kind: tree.Multi, Head: leaf.Head}, true, `( "mixed" NIL `+want+`)`)
	checkPut(t, text, tree.Part{Kind: tree.Multi, Head: leaf.Head}, false, `( "mixed")`)
	for _, kind := range []int{tree.Leaf, 3, -1} {
		leaf.Kind = kind
		lines := strconv.Itoa(strings.Count(head, "\n"))
		checkPut(t, text, leaf, true, `(`+ascii+` NIL NIL "7bit" `+digits+` `+lines+` NIL `+want+`)`)
		checkPut(t, text, leaf, false, `(`+ascii+` NIL NIL "7bit" `+digits+` `+lines+`)`)
	}
	leaf.Kind = tree.Message
	checkPut(t, text, leaf, true, `("message" "rfc822" NIL NIL NIL "7bit" `+digits+` NIL `+want+`)`)
	checkPut(t, text, leaf, false, `("message" "rfc822" NIL NIL NIL "7bit" `+digits+`)`)
}

// P20.2: how a part is shown.
func TestDisposition(t *testing.T) {
	for _, c := range []struct{ body, want string }{
		{"", "NIL"}, {" ", "NIL"}, {" (x)", "NIL"}, {" ;a=b", "NIL"}, {" \"a\"", "NIL"}, {" /a", "NIL"}, {" é", "NIL"},
		{" a", `("a" NIL)`}, {"A", `("a" NIL)`}, {" Inline ; x", `("inline" NIL)`}, {" NIL", `("nil" NIL)`}, {" a/b;c=d", `("a" NIL)`}, {" a b;c=d", `("a" NIL)`},
		{" (x) ATTACHMENT (y) ; (z) FileName = \"A b\" ; Size=1", `("attachment" ("filename" "A b" "size" "1"))`},
		{" a;\n b=c;\r\n\td=e", `("a" ("b" "c" "d" "e"))`}, {" {1}", `("{1}" NIL)`},
		{" " + strings.Repeat("A", 1001), "({1001}\r\n" + strings.Repeat("a", 1001) + " NIL)"},
		{" a\nContent-Disposition: b", `("a" NIL)`}, {"\nContent-Disposition: b", "NIL"}, {" /\nContent-Disposition: b", "NIL"},
	} {
		checkRest(t, "content-disposition:"+c.body+"\n", c.want+" NIL NIL")
		checkRest(t, "X: y\nCONTENT-DISPOSITION :"+c.body+"\nContent-Location: z\r\n", c.want+` NIL "z"`)
	}
	checkRest(t, "Disposition: a\nX-Content-Disposition: b\nContent-Disposition\n", "NIL NIL NIL")
}

// P20.2: each field in its place, whatever it is.
func TestFields(t *testing.T) {
	names := []string{"Content-ID", "Content-Description", "Content-MD5", "Content-Language", "Content-Location"}
	forms := [][2]string{
		{`(` + ascii + ` <Content-ID> <Content-Description> "7bit" 0 0)`, `(` + ascii + ` <Content-ID> <Content-Description> "7bit" 0 0 <Content-MD5> NIL <Content-Language> <Content-Location>)`},
		{`( "mixed")`, `( "mixed" NIL NIL <Content-Language> <Content-Location>)`},
		{`("message" "rfc822" NIL <Content-ID> <Content-Description> "7bit" 0)`, `("message" "rfc822" NIL <Content-ID> <Content-Description> "7bit" 0 <Content-MD5> NIL <Content-Language> <Content-Location>)`},
	}
	told := func(form, name, want string) string {
		for _, one := range names {
			if one != name {
				form = strings.ReplaceAll(form, "<"+one+">", "NIL")
			}
		}
		return strings.ReplaceAll(form, "<"+name+">", want)
	}
	for _, name := range names {
		for _, c := range append(texts(), written{": a\n" + name + ": b", `"a"`}, written{":\n" + name + ": b", `""`},
			written{": " + strings.Repeat("x", 1000), `"` + strings.Repeat("x", 1000) + `"`}, written{": " + strings.Repeat("x", 1001), "{1001}\r\n" + strings.Repeat("x", 1001)}) {
			for _, as := range []string{name, strings.ToLower(name), strings.ToUpper(name)} {
				text := "X-" + name + ": no\n" + as + "s: no\n" + as + " no\n"
				if c.body != "" {
					text += as + c.body + "\r\n"
				}
				text += "\n" + name + ": no\n"
				for kind, form := range forms {
					p := of(kind, text)
					p.Body = span(3, 3)
					check(t, text, p)
					checkPut(t, text, p, false, told(form[0], name, c.told))
					checkPut(t, text, p, true, told(form[1], name, c.told))
				}
			}
		}
	}
}

// P20.2: transfer encodings, as binary tells them, in all parts but a Multi.
func TestEncodings(t *testing.T) {
	for _, c := range []struct{ body, want string }{
		{":", `"7bit"`}, {": 7BIT", `"7bit"`}, {": Base64", `"base64"`}, {": a \"b\"", `"a \"b\""`}, {": é", "{2}\r\né"}, {": \x00A", "~{2}\r\n\x00a"}, {": a\nContent-Transfer-Encoding: b", `"a"`},
	} {
		text := "Content-Transfer-Encoding" + c.body + "\n"
		checkPut(t, text, of(tree.Leaf, text), false, `(`+ascii+` NIL NIL `+c.want+` 0 0)`)
		checkPut(t, text, of(tree.Message, text), false, `("message" "rfc822" NIL NIL NIL `+c.want+` 0)`)
		checkPut(t, text, of(tree.Multi, text), true, `( "mixed" NIL NIL NIL NIL)`)
		for kind := range 4 {
			check(t, text, of(kind, text))
		}
	}
}

// P20.2: what is told of a body's length and its lines, also where it isn't within the bytes.
func TestBodies(t *testing.T) {
	for _, c := range []struct {
		body  api.Span
		told  string
		lines string
	}{
		{span(0, 0), "0", "0"}, {span(1, 1), "0", "0"}, {span(8, 8), "0", "0"}, {span(0, 1), "1", "1"}, {span(0, 8), "8", "4"}, {span(0, 7), "7", "4"}, {span(0, 6), "6", "3"},
		{span(1, 3), "2", "1"}, {span(1, 4), "3", "2"}, {span(2, 5), "3", "2"}, {span(6, 8), "2", "1"}, {span(7, 8), "1", "1"},
		{span(9, 9), "0", "0"}, {span(0, 9), "9", "0"}, {span(-1, 8), "9", "0"}, {span(-1, -1), "0", "0"}, {span(3, 1), "-2", "0"}, {span(100, 0), "-100", "0"},
		{span(math.MinInt, math.MaxInt), "-1", "0"}, {span(math.MaxInt, math.MinInt), "1", "0"}, {span(math.MinInt, 0), "-9223372036854775808", "0"},
		{span(0, math.MinInt), "-9223372036854775808", "0"}, {span(math.MinInt, -1), "9223372036854775807", "0"}, {span(1, math.MinInt), "9223372036854775807", "0"},
		{span(0, math.MaxInt), "9223372036854775807", "0"}, {span(-1, math.MaxInt), "-9223372036854775808", "0"}, {span(math.MaxInt, math.MaxInt), "0", "0"},
	} {
		const text = "a\r\nb\n\n\rc"
		p := tree.Part{Body: c.body}
		checkPut(t, text, p, false, `(`+ascii+` NIL NIL "7bit" `+c.told+` `+c.lines+`)`)
		p.Kind = tree.Message
		checkPut(t, text, p, false, `("message" "rfc822" NIL NIL NIL "7bit" `+c.told+`)`)
		p.Kids = []tree.Part{{Kind: tree.Multi}}
		checkPut(t, text, p, false, `("message" "rfc822" NIL NIL NIL "7bit" `+c.told+` (NIL NIL NIL NIL NIL NIL NIL NIL NIL NIL) ( "mixed") `+c.lines+`)`)
		p.Kind = tree.Multi
		checkPut(t, text, p, false, `(( "mixed") "mixed")`)
		for _, kind := range []int{0, 1, 2, 3, math.MinInt} {
			p.Kind = kind
			check(t, text, p)
		}
	}
	for _, c := range []struct{ kind, lines string }{
		{"text/plain", " 2"}, {"TEXT/x; a=b", " 2"}, {"", " 2"}, {"text", " 2"}, {"textx/plain", ""}, {"tex/t", ""}, {"plain/text", ""}, {"message/text", ""},
		{"application/octet-stream", ""}, {"multipart/text", ""}, {"message/rfc822", ""}, {"multipart", " 2"},
	} {
		text := "Content-Type: " + c.kind + "\nContent-Transfer-Encoding: base64\n\na\nb"
		p := parse(t, text)
		if got, behind := Put([]byte(text), p, false), ` NIL NIL "base64" 3`+c.lines+`)`; !strings.HasSuffix(got, behind) {
			t.Errorf("Put of %q: %q, that doesn't end in %q", text, got, behind)
		}
		check(t, text, p)
	}
	eachRow(7, []string{"\n", "\r", "a"}, func(row []string) {
		check(t, "\n"+strings.Join(row, ""), parse(t, "\n"+strings.Join(row, "")))
	})
}

// P20.2: a Message tells its first kid alone, a Multi all of them, all others none.
func TestKids(t *testing.T) {
	const text = "Subject: a\n\nSubject: b\n\nSubject: c\nContent-ID: d\n\n"
	kids := []tree.Part{{Head: span(12, 24), Body: span(0, 1)}, {Head: span(24, len(text)), Kind: tree.Message, Body: span(0, 2)}, {Kind: tree.Multi}}
	told := []string{`(` + ascii + ` NIL NIL "7bit" 1 1)`, `("message" "rfc822" NIL "d" NIL "7bit" 2)`, `( "mixed")`}
	subjects := []string{`"b"`, `"c"`, "NIL"}
	eachRow(4, []int{0, 1, 2}, func(row []int) {
		p, joined := tree.Part{Head: span(0, 12)}, ""
		for _, n := range row {
			p.Kids = append(p.Kids, kids[n])
			joined += told[n]
		}
		for _, kind := range []int{tree.Leaf, 3, -1, math.MinInt} {
			p.Kind = kind
			checkPut(t, text, p, false, `(`+ascii+` NIL NIL "7bit" 0 0)`)
		}
		p.Kind = tree.Multi
		checkPut(t, text, p, false, `(`+joined+` "mixed")`)
		p.Kind = tree.Message
		want := ""
		if len(row) > 0 {
			want = ` (NIL ` + subjects[row[0]] + ` NIL NIL NIL NIL NIL NIL NIL NIL) ` + told[row[0]] + ` 0`
		}
		checkPut(t, text, p, false, `("message" "rfc822" NIL NIL NIL "7bit" 0`+want+`)`)
		for kind := range 4 {
			p.Kind = kind
			check(t, text, p)
		}
	})
}

// P20.2: it is the kind of a part, not its type, by which its kids are told.
func TestKidsByKind(t *testing.T) {
	for _, c := range []struct{ name, told string }{
		{"message/partial", `"message" "partial" NIL NIL NIL "7bit" 0`},
		{"message/rfc822", `"application" "octet-stream" NIL NIL NIL "7bit" 0`},
		{"multipart/mixed", `"application" "octet-stream" NIL NIL NIL "7bit" 0`},
		{"text/x", `"text" "x" NIL NIL NIL "7bit" 0 0`},
	} {
		text := "Content-Type: " + c.name + "\n"
		p := of(tree.Leaf, text)
		p.Kids = make([]tree.Part, 2)
		for _, kind := range []int{tree.Leaf, 3, -1} {
			p.Kind = kind
			checkPut(t, text, p, false, `(`+c.told+`)`)
			checkPut(t, text, p, true, `(`+c.told+` NIL NIL NIL NIL)`)
		}
		for _, kind := range []int{tree.Multi, tree.Message} {
			p.Kind = kind
			check(t, text, p)
		}
	}
}

// P20.1, P20.2: parts that Parse doesn't make; a Head that isn't within the bytes tells nothing.
func TestOtherParts(t *testing.T) {
	const text = "Content-Type: text/html; a=b\nContent-ID: c\nSubject: d\n\nContent-Type: multipart/e\nContent-MD5: f\n\ng\n"
	places := []int{math.MinInt, -1, 0, 1, 13, 14, 28, 29, 30, 43, 54, 55, 80, len(text) - 1, len(text), len(text) + 1, math.MaxInt}
	for _, from := range places {
		for _, to := range places {
			p := tree.Part{Head: span(from, to), Body: span(to, from), Cuts: []api.Span{span(from, to)}, End: span(to, to)}
			for kind := range 4 {
				p.Kind, p.Kids = kind, nil
				check(t, text, p)
				for kid := range 3 {
					p.Kids = []tree.Part{{Kind: kid, Head: span(to, from), Body: span(from, to)}, {Kind: 1, Head: p.Head, Kids: []tree.Part{{Kind: kid, Head: p.Head}}}}
					check(t, text, p)
				}
			}
		}
	}
	for kind := range 4 {
		check(t, "", tree.Part{Kind: kind})
		check(t, "", tree.Part{Kind: kind, Head: span(0, 1), Kids: make([]tree.Part, 2)})
		p := tree.Part{Kind: kind, Kids: make([]tree.Part, 2)}
		if got, want := Put(nil, p, true), putWanted("", p, true); got != want {
			t.Errorf("Put(nil, %v) = %q, not %q", p, got, want)
		}
	}
}

// P20.1 to P20.3: messages that are laid of pieces of which is known how they are told.
func TestMade(t *testing.T) {
	kinds := map[string]int{}
	for seed := range 1500 {
		m := maker{r: rand.New(rand.NewSource(int64(seed)))}
		one := m.entity(0, false)
		b, p := []byte(one.text), parse(t, one.text)
		var kind [3]string
		kind[0], kind[1], kind[2] = Kind(b, p)
		if kind != one.kind {
			t.Fatalf("Kind of %.900q: %q, not %q", one.text, kind, one.kind)
		}
		kinds[kind[0]]++
		checkPut(t, one.text, p, false, one.put[0])
		checkPut(t, one.text, p, true, one.put[1])
		check(t, one.text, p)
	}
	if kinds["multipart"] < 200 || kinds["message"] < 100 || kinds["text"] < 100 || kinds["application"] < 50 {
		t.Errorf("too few of a kind: %v", kinds)
	}
}

// P20.3: what comes of messages of any bytes are tokens whose brackets close, too.
func TestAnyMessages(t *testing.T) {
	pieces := []string{"Content-Type", "Content-ID", "CONTENT-DISPOSITION", "content-language", "Content-Transfer-Encoding", "Content-MD5", ":", ": ", "\n", "\n", "\r\n", "\n\n", "\n ", "\r",
		"multipart/mixed; boundary=x\n\n", "message/rfc822\n\n", "message/rfc822", "text/", "a", "b/c", "; ", "=", "\"", "(", ")", "\\", "[", "]", "{3}", "\x00", "\xc3", "\n--x\n", "\n--x--\n", "--x"}
	r := rand.New(rand.NewSource(203))
	for range 10000 {
		text := drawn(r, "", "Content-Type: multipart/mixed; boundary=x\n\n--x\n", "Content-Type: message/rfc822\n\n")
		for range r.Intn(24) {
			text += drawn(r, pieces...)
		}
		check(t, text, parse(t, text))
	}
}

// P20.1, P20.2: short rows of pieces of a header.
func TestRows(t *testing.T) {
	pieces := []string{"Content-Type", ":", "multipart", "message", "/", "rfc822", ";a=b", "\n"}
	eachRow(5, pieces, func(row []string) {
		text := "Content-Type:" + strings.Join(row, "")
		for kind := range 3 {
			p := of(kind, text)
			var got [3]string
			got[0], got[1], got[2] = Kind([]byte(text), p)
			if want := kindWanted(text, p); got != want {
				t.Fatalf("Kind(%q) of kind %d = %q, not %q", text, kind, got, want)
			}
		}
	})
}

// P20.2: parts as deep as may be, and more.
func TestDeep(t *testing.T) {
	head := "Content-Type: message/rfc822\n\n"
	check(t, strings.Repeat(head, 40)+"x", parse(t, strings.Repeat(head, 40)+"x"))
	text := ""
	for n := range 40 {
		mark := "m" + strconv.Itoa(n)
		text += "Content-Type: multipart/x; boundary=" + mark + "\n\n--" + mark + "\n"
	}
	check(t, text, parse(t, text))
	p := tree.Part{Body: span(0, 1)}
	const levels = 1 << 16
	for range levels - 1 {
		p = tree.Part{Kind: tree.Multi, Kids: []tree.Part{p}}
	}
	checkPut(t, "x", p, false, strings.Repeat("(", levels)+ascii+` NIL NIL "7bit" 1 1)`+strings.Repeat(` "mixed")`, levels-1))
	p = tree.Part{Kind: tree.Multi}
	for range levels - 1 {
		p = tree.Part{Kind: tree.Message, Kids: []tree.Part{p}, Body: span(0, 1)}
	}
	const each = `("message" "rfc822" NIL NIL NIL "7bit" 1 (NIL NIL NIL NIL NIL NIL NIL NIL NIL NIL) `
	checkPut(t, "x", p, true, strings.Repeat(each, levels-1)+`( "mixed" NIL NIL NIL NIL)`+strings.Repeat(" 1 NIL NIL NIL NIL)", levels-1))
}

// P20.2: as many parts as may be, and more.
func TestWide(t *testing.T) {
	for _, n := range []int{1, 2, 999, 1000} {
		text := "Content-Type: multipart/mixed; boundary=x\n\n" + strings.Repeat("--x\n\na\n", n)
		check(t, text, parse(t, text))
	}
	p := tree.Part{Kind: tree.Multi, Kids: make([]tree.Part, 20000)}
	checkPut(t, "", p, false, "("+strings.Repeat(`(`+ascii+` NIL NIL "7bit" 0 0)`, 20000)+` "mixed")`)
}

// Rules 3 and 4: what is handed in stays as it is, and the same calls have the same answers.
func TestSame(t *testing.T) {
	for seed := range 200 {
		m := maker{r: rand.New(rand.NewSource(int64(-1 - seed)))}
		one := m.entity(0, false)
		b, p, again := []byte(one.text), parse(t, one.text), parse(t, one.text)
		for _, all := range []bool{false, true, false} {
			if first, second := Put(b, p, all), Put(slices.Clone(b), again, all); first != second {
				t.Fatalf("two answers to Put(%.300q, %v): %.300q and %.300q", b, all, first, second)
			}
			Kind(b, p)
			if string(b) != one.text || !reflect.DeepEqual(p, again) {
				t.Fatalf("Put(%.300q) changed what is handed in", one.text)
			}
		}
	}
}
