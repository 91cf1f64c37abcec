package binary

import (
	"bytes"
	"math"
	"reflect"
	"slices"
	"strings"
	"testing"

	"letterbox/api"
	"letterbox/b64"
	"letterbox/fetch"
	"letterbox/qp"
	"letterbox/section"
	"letterbox/tree"
)

// cte begins the field of an encoding.
const cte = "Content-Transfer-Encoding: "

// parse is the tree of a text.
func parse(t *testing.T, text string) tree.Part {
	t.Helper()
	p, err := tree.Parse([]byte(text))
	if err != api.OK {
		t.Fatalf("Parse(%.60q): %v", text, err)
	}
	return p
}

// span are bytes from one on, below another one.
func span(from, to int) api.Span { return api.Span{From: from, To: to} }

// coded is a message of a body in an encoding.
func coded(encoding, body string) string { return cte + encoding + "\r\n\r\n" + body }

// P17.1: what headers tell.
func TestEncoding(t *testing.T) {
	for _, c := range []struct{ text, want string }{
		{"", "7bit"},
		{"\r\n", "7bit"},
		{"Subject: base64\r\n\r\n", "7bit"},
		{cte + "base64\r\n\r\n", "base64"},
		{cte + "BASE64", "base64"},
		{cte + "Quoted-Printable\n", "quoted-printable"},
		{cte + "7BIT\n", "7bit"},
		{cte + "8bit\n\n", "8bit"},
		{cte + "Binary\n", "binary"},
		{cte + "X-Own\n", "x-own"},
		{"content-transfer-encoding:base64", "base64"},
		{"CONTENT-TRANSFER-ENCODING \t:\tbase64 \t\r\n", "base64"},
		// Nothing, also in lines that go on.
		{cte, "7bit"},
		{cte + "\n\nbase64", "7bit"},
		{cte + " \t\r\n \t\r\n\r\n", "7bit"},
		{cte + "\r\n base64\r\n", "base64"},
		{cte + "ba\r\n\tse64\r\n", "ba\tse64"},
		// All of it, whatever it is.
		{cte + "base64 (as ever)\n", "base64 (as ever)"},
		{cte + "\"Base64\"\n", "\"base64\""},
		{cte + "base64; x=Y\n", "base64; x=y"},
		{cte + "=?utf-8?Q?base64?=\n", "=?utf-8?q?base64?="},
		{cte + ":a:B\n", ":a:b"},
		// The first one counts, also if it has no value.
		{cte + "a\n" + cte + "b\n", "a"},
		{cte + "\n" + cte + "b\n", "7bit"},
		{"Subject: x\n" + cte + "a\n", "a"},
		// No fields of the part's header.
		{"\n" + cte + "a\n", "7bit"},
		{"Subject: x\r\n\r\n" + cte + "a\r\n", "7bit"},
		{" " + cte + "a\n", "7bit"},
		{"Subject: x\n " + cte + "a\n", "7bit"},
		{"X-" + cte + "a\n", "7bit"},
		{"Content-Transfer-Encodings: a\n", "7bit"},
		{"Content-Transfer-Encodin: a\n", "7bit"},
		{"Content-Transfer-Encoding\n", "7bit"},
		{"Content-Type: a\n", "7bit"},
	} {
		p := tree.Part{Head: span(0, len(c.text)), Body: span(len(c.text), len(c.text))}
		if got := Encoding([]byte(c.text), p); got != c.want {
			t.Errorf("of %q: %q, not %q", c.text, got, c.want)
		}
		if got := encodingWanted(c.text, p); got != c.want {
			t.Errorf("the form of %q: %q, not %q", c.text, got, c.want)
		}
	}
}

// P17.1: each byte in the midst of a value, and at its ends; A to Z alone become small.
func TestEncodingBytes(t *testing.T) {
	for n := range 256 {
		c := string([]byte{byte(n)})
		for _, value := range []string{c, "x" + c + "y", c + "x", "x" + c, c + c} {
			for _, end := range []string{"", "\n", "\r\n"} {
				text := cte + value + end
				checkEncoding(t, text, tree.Part{Head: span(0, len(text))})
			}
		}
	}
	text := cte + "\u212a\u0130\xc3\x89\xff[@Z\n"
	if got := Encoding([]byte(text), tree.Part{Head: span(0, len(text))}); got != "\u212a\u0130\xc3\x89\xff[@z" {
		t.Errorf("%q", got)
	}
}

// P17.1: short rows of pieces of headers.
func TestEncodingRows(t *testing.T) {
	pieces := []string{"Content-Transfer-Encoding", ":", " ", "\n", "\r", "A:B", "a", "content-transfer-encoding:Q"}
	eachRow(6, pieces, func(row []string) {
		text := strings.Join(row, "")
		checkEncoding(t, text, tree.Part{Head: span(0, len(text))})
	})
}

// P17.1: it is the Head that tells, wherever that stands, whatever the part is.
func TestEncodingHead(t *testing.T) {
	text := cte + "a\n\n" + cte + "b\n\n"
	first := len(text) / 2
	places := []int{math.MinInt, -1, 0, 1, len(cte), first - 1, first, first + 1, len(text) - 1, len(text), len(text) + 1, math.MaxInt}
	for _, from := range places {
		for _, to := range places {
			for kind := range 4 {
				checkEncoding(t, text, tree.Part{Kind: kind, Head: span(from, to), Body: span(0, first)})
			}
		}
	}
	if got := Encoding([]byte(text), tree.Part{Head: span(first, len(text)), Body: span(0, first)}); got != "b" {
		t.Errorf("%q", got)
	}
	if got := Encoding([]byte(text), tree.Part{Head: span(0, len(text)+1)}); got != "7bit" {
		t.Errorf("of a Head that isn't there: %q", got)
	}
	if got := Encoding(nil, tree.Part{}); got != "7bit" {
		t.Errorf("of nothing: %q", got)
	}
}

// letter is a message of parts of all encodings, and of parts in them.
const letter = cte + "8bit\r\nContent-Type: multipart/mixed; boundary=a\r\n\r\npre\r\n" +
	"--a\r\n" + cte + "base64\r\n\r\nQU\r\nI=\r\n" +
	"--a\r\n" + cte + "Quoted-Printable\r\n\r\na=3D= \r\nb \r\n\r\n" +
	"--a\r\n" + cte + "7bit\r\n\r\na=3D \r\n" +
	"--a\r\n" + cte + "BINARY\r\n\r\n\x00\xff\n\r\n" +
	"--a\r\n\r\nQUI=\r\n" +
	"--a\r\n" + cte + "x-uuencode\r\n\r\nQUI=\r\n" +
	"--a\r\n" + cte + "base64\r\n\r\nQUI\r\n" +
	"--a\r\n" + cte + "quoted-printable\r\n\r\na=3\r\n" +
	"--a\r\n" + cte + "base64\r\nContent-Type: multipart/mixed; boundary=b\r\n\r\n--b\r\n" + cte + "base64\r\n\r\nQ0Q=\r\n--b--\r\n" +
	"--a\r\n" + cte + "8bit\r\nContent-Type: message/rfc822\r\n\r\n" + cte + "base64\r\n\r\nRUY=\r\n" +
	"--a\r\n" + cte + "base64\r\nContent-Type: message/rfc822\r\n\r\nQTpiCgpj\r\n" +
	"--a\r\n" + cte + "8bit\r\n\r\n\xc3\xa9\r\n" +
	"--a--\r\npost"

// P17.2: parts of a message, by their paths.
func TestGet(t *testing.T) {
	p := parse(t, letter)
	for _, c := range []struct {
		path []int
		want string
		err  api.Errno
	}{
		{nil, letter, api.OK},
		{[]int{}, letter, api.OK},
		{[]int{1}, "AB", api.OK},
		{[]int{2}, "a=b\r\n", api.OK},
		{[]int{3}, "a=3D ", api.OK},
		{[]int{4}, "\x00\xff\n", api.OK},
		{[]int{5}, "QUI=", api.OK},
		{[]int{6}, "", api.ErrCte},
		{[]int{7}, "", api.ErrCte},
		{[]int{8}, "", api.ErrCte},
		{[]int{9}, "--b\r\n" + cte + "base64\r\n\r\nQ0Q=\r\n--b--", api.OK},
		{[]int{9, 1}, "CD", api.OK},
		{[]int{10}, cte + "base64\r\n\r\nRUY=", api.OK},
		{[]int{10, 1}, "EF", api.OK},
		{[]int{11}, "A:b\n\nc", api.OK},
		{[]int{12}, "\xc3\xa9", api.OK},
		// Where there is none.
		{[]int{0}, "", api.ErrNone},
		{[]int{-1}, "", api.ErrNone},
		{[]int{13}, "", api.ErrNone},
		{[]int{math.MaxInt}, "", api.ErrNone},
		{[]int{math.MinInt}, "", api.ErrNone},
		{[]int{1, 1}, "", api.ErrNone},
		{[]int{6, 1}, "", api.ErrNone},
		{[]int{7, 0}, "", api.ErrNone},
		{[]int{9, 2}, "", api.ErrNone},
		{[]int{9, 1, 1}, "", api.ErrNone},
		{[]int{10, 2}, "", api.ErrNone},
		{[]int{10, 1, 1}, "", api.ErrNone},
		{[]int{11, 1}, "", api.ErrNone},
		{[]int{0, 1}, "", api.ErrNone},
	} {
		got, err := Get([]byte(letter), p, c.path)
		if string(got) != c.want || err != c.err {
			t.Errorf("Get of %v: %q, %v, not %q, %v", c.path, got, err, c.want, c.err)
		}
		if n, err := Size([]byte(letter), p, c.path); n != len(c.want) || err != c.err {
			t.Errorf("Size of %v: %d, %v, not %d, %v", c.path, n, err, len(c.want), c.err)
		}
		check(t, letter, p, c.path...)
	}
}

// P17.2: the one part of a message that is no Multi, in each encoding.
func TestGetOne(t *testing.T) {
	for _, c := range []struct {
		encoding, body, want string
		err                  api.Errno
	}{
		{"base64", "QUI=", "AB", api.OK},
		{"Base64", " Q U\tI\r\n=\n", "AB", api.OK},
		{"base64", "", "", api.OK},
		{"base64", "\r\n \t", "", api.OK},
		{"base64", "AA==", "\x00", api.OK},
		{"base64", "////", "\xff\xff\xff", api.OK},
		{"base64", "QUI", "", api.ErrCte},
		{"base64", "QUJ=", "", api.ErrCte},
		{"base64", "QUI=QUI=", "", api.ErrCte},
		{"base64", "QU-_", "", api.ErrCte},
		{"base64", "=", "", api.ErrCte},
		{"base64", "QUJD\r\n-- \r\nme", "", api.ErrCte},
		{"quoted-printable", "a=3D=\nb", "a=b", api.OK},
		{"QUOTED-PRINTABLE", "=41=\r\n=62 \r\n", "Ab\r\n", api.OK},
		{"quoted-printable", "", "", api.OK},
		{"quoted-printable", "=00=ff", "\x00\xff", api.OK},
		{"quoted-printable", "a=", "a", api.OK},
		{"quoted-printable", "=4", "", api.ErrCte},
		{"quoted-printable", "=4g", "", api.ErrCte},
		{"quoted-printable", "a\x00", "", api.ErrCte},
		{"quoted-printable", "\xc3\xa9", "", api.ErrCte},
		{"7bit", "\x00\xff=\r\n", "\x00\xff=\r\n", api.OK},
		{"8BIT", "QUI= \r\n", "QUI= \r\n", api.OK},
		{"binary", "a=3D=\n", "a=3D=\n", api.OK},
		{"", "=41", "=41", api.OK},
		{" ", "", "", api.OK},
		{"x", "", "", api.ErrCte},
		{"base64 (c)", "QUI=", "", api.ErrCte},
		{"base64;", "QUI=", "", api.ErrCte},
		{"\"base64\"", "QUI=", "", api.ErrCte},
		{"base", "QUI=", "", api.ErrCte},
		{"base64\r\n 8bit", "QUI=", "", api.ErrCte},
		{"quoted_printable", "a", "", api.ErrCte},
		{"quoted", "a", "", api.ErrCte},
		{"q", "a", "", api.ErrCte},
		{"7", "a", "", api.ErrCte},
		{"7 bit", "a", "", api.ErrCte},
		{"7bit 8bit", "a", "", api.ErrCte},
		{"9bit", "a", "", api.ErrCte},
		{"binary.", "a", "", api.ErrCte},
	} {
		text := coded(c.encoding, c.body)
		p := parse(t, text)
		got, err := Get([]byte(text), p, []int{1})
		if string(got) != c.want || err != c.err {
			t.Errorf("Get of %q: %q, %v, not %q, %v", text, got, err, c.want, c.err)
		}
		check(t, text, p, 1)
		check(t, text, p)
		if err := check(t, text, p, 2); err != api.ErrNone {
			t.Errorf("part 2 of %q: %v", text, err)
		}
	}
}

// P17.2: all encodings, broken ones and unknown ones among them, of all bodies, in parts of all kinds.
func TestGetAll(t *testing.T) {
	encodings := []string{"", "7bit", "8Bit", "BINARY", "base64", "BASE64", "quoted-printable", "Quoted-Printable", "x-own", "base65", "bit", "base64, 7bit"}
	bodies := []string{"", "QUI=", "QUI", "Q U\r\nI =", "QUI=\r\n=", "a=3Db", "a=3", "a=\r\nb", "a b \r\n", "=", "\x00", "\xc3\xa9", "AAAA", "a\n\nb", "=0D=0A"}
	types := []string{"", "Content-Type: message/rfc822\r\n", "Content-Type: multipart/mixed; boundary=c\r\n", "Content-Type: multipart/digest; boundary=a\r\n"}
	told := map[api.Errno]int{}
	for _, encoding := range encodings {
		for _, body := range bodies {
			for _, kind := range types {
				text := kind + coded(encoding, body)
				parts := "\r\n--a\r\n" + text + "\r\n--a\r\n\r\n" + text + "\r\n--a--\r\n"
				for _, text := range []string{
					text,
					kind + coded("8bit", text),
					"Content-Type: message/rfc822\r\n\r\n" + text,
					"Content-Type: message/rfc822\r\n" + coded(encoding, text),
					"Content-Type: multipart/mixed; boundary=a\r\n" + coded(encoding, parts),
					"Content-Type: message/rfc822\r\n\r\nContent-Type: multipart/digest; boundary=a\r\n" + coded(encoding, parts),
				} {
					p := parse(t, text)
					eachRow(3, []int{0, 1, 2, 3}, func(path []int) { told[check(t, text, p, path...)]++ })
				}
			}
		}
	}
	if told[api.OK] < 5000 || told[api.ErrCte] < 2000 || told[api.ErrNone] < 5000 {
		t.Errorf("too few of a kind: %v", told)
	}
}

// P17.2: that there is no such part is told ahead of its encoding; without a path no encoding matters.
func TestOrder(t *testing.T) {
	for _, encoding := range []string{"x", "base64", "quoted-printable"} {
		text := coded(encoding, "=")
		p := parse(t, text)
		if got, err := Get([]byte(text), p, []int{2}); len(got) != 0 || err != api.ErrNone {
			t.Errorf("part 2 of %q: %q, %v", text, got, err)
		}
		if got, err := Get([]byte(text), p, nil); string(got) != text || err != api.OK {
			t.Errorf("all of %q: %q, %v", text, got, err)
		}
		if n, err := Size([]byte(text), p, nil); n != len(text) || err != api.OK {
			t.Errorf("all of %q: %d, %v", text, n, err)
		}
	}
}

// P17.2: a Multi's bytes stand as they are, whatever it tells; those of all other kinds don't.
func TestKinds(t *testing.T) {
	for _, kind := range []int{tree.Leaf, tree.Multi, tree.Message, 3, -1, math.MaxInt, math.MinInt} {
		for _, c := range []struct {
			encoding, want string
			err            api.Errno
		}{{"base64", "AB", api.OK}, {"quoted-printable", "", api.ErrCte}, {"x", "", api.ErrCte}, {"8bit", "QUI=\n=q", api.OK}} {
			body := "QUI=\n"
			if c.encoding != "base64" {
				body += "=q"
			}
			if kind == tree.Multi {
				c.want, c.err = body, api.OK
			}
			text := coded(c.encoding, body)
			p := parse(t, text)
			p.Kind = kind
			multi := tree.Part{Kind: tree.Multi, Kids: []tree.Part{p}}
			if got, err := Get([]byte(text), multi, []int{1}); string(got) != c.want || err != c.err {
				t.Errorf("%s of kind %d: %q, %v, not %q, %v", c.encoding, kind, got, err, c.want, c.err)
			}
			check(t, text, multi, 1)
			check(t, text, p, 1)
			check(t, text, p)
		}
	}
}

// P17.2: what isn't within the bytes is nothing, Head and Body each by itself.
func TestPlaces(t *testing.T) {
	for _, encoding := range []string{"base64", "x", "8bit", "quoted-printable"} {
		text := coded(encoding, "QUJD")
		n := len(text)
		places := []int{math.MinInt, -1, 0, 1, n - 5, n - 4, n - 3, n, n + 1, math.MaxInt}
		eachRow(4, places, func(row []int) {
			if len(row) < 4 {
				return
			}
			p := tree.Part{Head: span(row[0], row[1]), Body: span(row[2], row[3])}
			check(t, text, p)
			check(t, text, p, 1)
			p.Kind = tree.Multi
			check(t, text, p)
			check(t, text, tree.Part{Kind: tree.Multi, Kids: []tree.Part{p}}, 1)
		})
	}
	text := coded("base64", "QUJD")
	n := len(text)
	for _, c := range []struct {
		p    tree.Part
		path []int
		want string
	}{
		// Without a path it is the Head's begin and the Body's end alone that matter.
		{tree.Part{Head: span(1, -7), Body: span(n+9, 3)}, nil, text[1:3]},
		{tree.Part{Head: span(3, 3), Body: span(1, 1)}, nil, ""},
		{tree.Part{Head: span(0, n), Body: span(n, n+1)}, nil, ""},
		{tree.Part{Head: span(-1, n), Body: span(n, n)}, nil, ""},
		{tree.Part{Head: span(0, n-4), Body: span(n-4, n+1)}, []int{1}, ""},
		{tree.Part{Head: span(0, n-4), Body: span(n, n-4)}, []int{1}, ""},
		{tree.Part{Head: span(-1, n-4), Body: span(n-4, n)}, []int{1}, "QUJD"},
		{tree.Part{Head: span(0, n-4), Body: span(n-4, n)}, []int{1}, "ABC"},
	} {
		if got, err := Get([]byte(text), c.p, c.path); string(got) != c.want || err != api.OK {
			t.Errorf("%v of %v: %q, %v, not %q", c.path, c.p, got, err, c.want)
		}
	}
	text = coded("x", "QUJD")
	n = len(text)
	if _, err := Get([]byte(text), tree.Part{Head: span(0, n), Body: span(n, n+1)}, []int{1}); err != api.ErrCte {
		t.Errorf("a Body that isn't there, of an encoding that isn't known: %v", err)
	}
	check(t, "", tree.Part{})
	check(t, "", tree.Part{}, 1)
	check(t, "", tree.Part{Kind: tree.Multi}, 1)
	check(t, "", tree.Part{Kind: tree.Message}, 1, 1)
}

// P17.2: paths as long as parts are deep, and longer ones than a spec may have.
func TestDeep(t *testing.T) {
	head := "Content-Type: message/rfc822\n\n"
	text := strings.Repeat(head, 33) + "x"
	p := parse(t, text)
	for n := range 100 {
		err := check(t, text, p, slices.Repeat([]int{1}, n)...)
		if (err == api.OK) != (n <= 33) {
			t.Errorf("%d times 1: %v", n, err)
		}
	}
	text = coded("base64", "QUI=")
	p = parse(t, text)
	for range 99 {
		p = tree.Part{Kind: tree.Multi, Kids: []tree.Part{p}}
	}
	path := slices.Repeat([]int{1}, 99)
	if got, err := Get([]byte(text), p, path); string(got) != "AB" || err != api.OK {
		t.Errorf("99 times 1: %q, %v", got, err)
	}
	if got, err := Get([]byte(text), p, append(path, 1)); len(got) != 0 || err != api.ErrNone {
		t.Errorf("100 times 1: %q, %v", got, err)
	}
}

// P17.3: a part whose bytes stand as they are is told as fetch.Get tells it.
func TestFollows(t *testing.T) {
	bodies := []string{"", "QUI=", "a=3D=\r\n", "\x00\xff\r", "a\n\nb\r\n"}
	for _, encoding := range []string{"", "7bit", "8BIT", "Binary"} {
		for _, body := range bodies {
			one := coded(encoding, body)
			multi := "Content-Type: multipart/mixed; boundary=a\r\n" + coded("base64", "p\r\n--a\r\n"+one+"\r\n--a\r\n\r\nx\r\n--a--\r\nq")
			for _, text := range []string{one, multi, "Content-Type: message/rfc822\r\n\r\n" + one, "Content-Type: message/rfc822\r\n\r\n" + multi} {
				p := parse(t, text)
				b := []byte(text)
				for _, path := range [][]int{nil, {1}, {2}, {1, 1}, {1, 2}} {
					if _, is := fetch.Find(p, path); !is && len(path) > 0 {
						continue
					}
					want := fetch.Get(b, p, section.Spec{Path: path})
					if got, err := Get(b, p, path); !bytes.Equal(got, want) || err != api.OK {
						t.Errorf("%v of %q: %q, %v, not %q", path, text, got, err, want)
					}
					if n, err := Size(b, p, path); n != fetch.Size(b, p, section.Spec{Path: path}) || err != api.OK {
						t.Errorf("%v of %q: %d, %v", path, text, n, err)
					}
				}
			}
		}
	}
}

// P17.2: what was encoded is told as it was, each byte, in lines of all widths.
func TestAsItWas(t *testing.T) {
	all := make([]byte, 0, 512)
	for n := range 512 {
		all = append(all, byte(n*n/3+n))
	}
	for n := range 256 {
		all = append(all, byte(n))
	}
	for n := range len(all) {
		for encoding, text := range map[string][]byte{
			"base64":           b64.Encode(all[n:], n%90),
			"quoted-printable": qp.Encode(all[n:]),
			"binary":           all[n:],
		} {
			message := coded(encoding, string(text))
			if got, err := Get([]byte(message), parse(t, message), []int{1}); !bytes.Equal(got, all[n:]) || err != api.OK {
				t.Fatalf("%s from %d on: %q, %v", encoding, n, got, err)
			}
		}
	}
}

// P17.2: answers are new memory, and what is handed in stays as it is.
func TestNew(t *testing.T) {
	b, p, again := []byte(letter), parse(t, letter), parse(t, letter)
	for _, path := range [][]int{nil, {1}, {2}, {3}, {4}, {5}, {9}, {9, 1}, {10}, {10, 1}, {11}, {12}} {
		was := slices.Clone(path)
		first, err := Get(b, p, path)
		if len(first) == 0 || err != api.OK {
			t.Errorf("%v: %q, %v", path, first, err)
		}
		second, _ := Get(b, p, path)
		clear(first[:cap(first)])
		if string(b) != letter || !slices.Equal(path, was) || !reflect.DeepEqual(p, again) {
			t.Fatalf("%v: an answer shares memory", path)
		}
		if third, _ := Get(b, p, path); !bytes.Equal(second, third) {
			t.Errorf("%v: %q, then %q", path, second, third)
		}
		Size(b, p, path)
		Encoding(b, p)
		if string(b) != letter || !reflect.DeepEqual(p, again) {
			t.Fatalf("%v: what is handed in is changed", path)
		}
	}
}

// P17.2: with an error there are no bytes.
func TestNothingBeside(t *testing.T) {
	p := parse(t, letter)
	for _, path := range [][]int{{6}, {7}, {8}, {13}, {1, 1}} {
		if got, err := Get([]byte(letter), p, path); got != nil || err == api.OK {
			t.Errorf("Get of %v: %q, %v", path, got, err)
		}
		if n, err := Size([]byte(letter), p, path); n != 0 || err == api.OK {
			t.Errorf("Size of %v: %d, %v", path, n, err)
		}
	}
}

// P17.2: long parts, whole and broken at their ends.
func TestLong(t *testing.T) {
	was := bytes.Repeat([]byte("a\x00\xff=\n"), 1<<17)
	for encoding, text := range map[string][]byte{"base64": b64.Encode(was, 76), "quoted-printable": qp.Encode(was), "8bit": was} {
		message := coded(encoding, string(text))
		p := parse(t, message)
		if got, err := Get([]byte(message), p, []int{1}); !bytes.Equal(got, was) || err != api.OK {
			t.Errorf("%s: %d bytes, %v", encoding, len(got), err)
		}
		if n, err := Size([]byte(message), p, []int{1}); n != len(was) || err != api.OK {
			t.Errorf("%s: %d, %v", encoding, n, err)
		}
		message += "=x"
		n, err := Size([]byte(message), parse(t, message), []int{1})
		if wrong := encoding != "8bit"; (err == api.ErrCte) != wrong || (n == 0) != wrong {
			t.Errorf("%s, with an end that isn't its own: %d, %v", encoding, n, err)
		}
	}
}
