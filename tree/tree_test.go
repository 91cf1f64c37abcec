package tree

import (
	"bytes"
	"reflect"
	"strconv"
	"strings"
	"testing"

	"letterbox/api"
)

// parse is Parse of a text, that must go, and leave the text as it is.
func parse(t *testing.T, text string) Part {
	t.Helper()
	b := []byte(text)
	p, err := Parse(b)
	if err != api.OK || string(b) != text {
		t.Fatalf("Parse(%q): %v, and left %q", text, err, b)
	}
	return p
}

// pieces are the bytes of a tree, one behind the other, as they should be told by tags: of a header, a body, what stands ahead of
// delimiters, these, kids, the close one, and what stands behind it.
func pieces(t *testing.T, text string, p Part) string {
	t.Helper()
	if p.Head.From < 0 || p.Head.From > p.Head.To || p.Head.To != p.Body.From || p.Body.From > p.Body.To || p.Body.To > len(text) {
		t.Fatalf("of %q: %v", text, p)
	}
	told := "H<" + text[p.Head.From:p.Head.To] + ">"
	switch p.Kind {
	case Leaf:
		return told + "B<" + text[p.Body.From:p.Body.To] + ">"
	case Message:
		return told + "M{" + pieces(t, text, p.Kids[0]) + "}"
	}
	at := p.Body.From
	told += "{"
	for i, kid := range p.Kids {
		told += "<" + text[at:p.Cuts[i].From] + ">C<" + text[p.Cuts[i].From:p.Cuts[i].To] + ">" + pieces(t, text, kid)
		at = kid.Body.To
	}
	return told + "<" + text[at:p.End.From] + ">E<" + text[p.End.From:p.End.To] + "><" + text[p.End.To:p.Body.To] + ">}"
}

// checkPart tells whether a part, and all below it, is of a form that there may be, from one place on to another.
func checkPart(t *testing.T, text string, p Part, from, to int) {
	t.Helper()
	if p.Head.From != from || p.Head.To != p.Body.From || p.Body.To != to || p.Head.To < from || p.Body.From > to {
		t.Fatalf("of %q, %d to %d: %v", text, from, to, p)
	}
	at := p.Body.From
	for i, kid := range p.Kids {
		end := p.Body.To
		if p.Kind == Multi {
			if p.Cuts[i].From < at || p.Cuts[i].To <= p.Cuts[i].From || i > 0 && p.Cuts[i].From != at {
				t.Fatalf("of %q: cut %d of %v", text, i, p)
			}
			at = p.Cuts[i].To
			end = p.End.From
			if i+1 < len(p.Cuts) {
				end = p.Cuts[i+1].From
			}
		}
		checkPart(t, text, kid, at, end)
		at = end
	}
	right := false
	switch p.Kind {
	case Leaf:
		right = len(p.Kids) == 0 && len(p.Cuts) == 0 && p.End == api.Span{}
	case Multi:
		right = len(p.Kids) > 0 && len(p.Cuts) == len(p.Kids) && p.End.From == at && p.End.From <= p.End.To && p.End.To <= to
	case Message:
		right = len(p.Kids) == 1 && len(p.Cuts) == 0 && p.End == api.Span{} && at == to
	}
	if !right {
		t.Fatalf("of %q: %v", text, p)
	}
}

// check holds Parse of a text against its form, and what follows.
func check(t *testing.T, text string) {
	t.Helper()
	p, want := parse(t, text), treeWanted(text)
	if !reflect.DeepEqual(p, want) {
		t.Fatalf("Parse(%q) = %v, not %v", text, p, want)
	}
	checkPart(t, text, p, 0, len(text))
	if n := Count(p); n < 1 || n > api.MaxParts {
		t.Fatalf("Parse(%q): %d parts", text, n)
	}
	if deep := Deep(p); deep > api.MaxDepth {
		t.Fatalf("Parse(%q): %d deep", text, deep)
	}
}

// ofText is a text, and the pieces of its tree.
type ofText struct{ text, want string }

// checkTexts holds the pieces of texts against what is wanted.
func checkTexts(t *testing.T, all []ofText) {
	t.Helper()
	for _, c := range all {
		if got := pieces(t, c.text, parse(t, c.text)); got != c.want {
			t.Errorf("of %q: %q, not %q", c.text, got, c.want)
		}
	}
}

// mixed is a header of a multipart/mixed, and what it is told as.
const mixed = "Content-Type: multipart/mixed; boundary=a\n\n"

// message is a header of a message/rfc822.
const message = "Content-Type: message/rfc822\n\n"

// ofMixed is what a header of a multipart/mixed, and a body, should be.
func ofMixed(body, want string) ofText { return ofText{mixed + body, "H<" + mixed + ">" + want} }

// P12.1: bytes of no parts.
func TestLeaf(t *testing.T) {
	checkTexts(t, []ofText{
		{"", "H<>B<>"},
		{"x", "H<x>B<>"},
		{"\n", "H<\n>B<>"},
		{"\r\nx", "H<\r\n>B<x>"},
		{"A: b\r\n", "H<A: b\r\n>B<>"},
		{"A: b\r\n\r\nx\r\n\r\ny", "H<A: b\r\n\r\n>B<x\r\n\r\ny>"},
		{"Content-Type: text/plain; boundary=a\n\n--a\n\nx", "H<Content-Type: text/plain; boundary=a\n\n>B<--a\n\nx>"},
		{"Content-Type: message/partial\n\nA: b\n\nx", "H<Content-Type: message/partial\n\n>B<A: b\n\nx>"},
		{"Content-Type: text/rfc822\n\nA: b\n\nx", "H<Content-Type: text/rfc822\n\n>B<A: b\n\nx>"},
		// No type tells of parts but in a header.
		{"\n" + mixed + "--a\n", "H<\n>B<" + mixed + "--a\n>"},
	})
	for _, b := range [][]byte{nil, {}} {
		if p, err := Parse(b); err != api.OK || !reflect.DeepEqual(p, Part{}) {
			t.Errorf("of nothing: %v, %v", p, err)
		}
	}
}

// P12.1: where a leaf, a multi and a message stand.
func TestPlaces(t *testing.T) {
	span := func(from, to int) api.Span { return api.Span{From: from, To: to} }
	for _, c := range []struct {
		text string
		want Part
	}{
		{"A: b\n\nx", Part{Kind: 0, Head: span(0, 6), Body: span(6, 7)}},
		{"Content-Type: multipart/x; boundary=a\n\np\n--a\n\nx\r\n--a--\nq", Part{
			Kind: 1, Head: span(0, 39), Body: span(39, 56),
			Kids: []Part{{Kind: 0, Head: span(45, 46), Body: span(46, 47)}},
			Cuts: []api.Span{span(40, 45)},
			End:  span(47, 55),
		}},
		{"Content-Type: message/rfc822\n\nA: b\n\nx", Part{
			Kind: 2, Head: span(0, 30), Body: span(30, 37),
			Kids: []Part{{Kind: 0, Head: span(30, 36), Body: span(36, 37)}},
		}},
	} {
		if p := parse(t, c.text); !reflect.DeepEqual(p, c.want) {
			t.Errorf("of %q: %v, not %v", c.text, p, c.want)
		}
	}
	if Leaf != 0 || Multi != 1 || Message != 2 {
		t.Errorf("kinds: %d, %d, %d", Leaf, Multi, Message)
	}
}

// P12.1: delimiters, and what stands between.
func TestDelimiters(t *testing.T) {
	checkTexts(t, []ofText{
		ofMixed("--a\n\nx\n--a--\n", "{<>C<--a\n>H<\n>B<x><>E<\n--a--\n><>}"),
		ofMixed("p\r\n--a\r\nB: c\r\n\r\nx\r\n--a\r\n\r\ny\r\n--a--\r\nq",
			"{<p>C<\r\n--a\r\n>H<B: c\r\n\r\n>B<x><>C<\r\n--a\r\n>H<\r\n>B<y><>E<\r\n--a--\r\n><q>}"),
		// The line ahead gives its end, if it isn't a delimiter's.
		ofMixed("\n--a\n\n--a--", "{<>C<\n--a\n>H<>B<><>E<\n--a--><>}"),
		ofMixed("\r\n--a\n\r\n\r\n--a--", "{<>C<\r\n--a\n>H<\r\n>B<><>E<\r\n--a--><>}"),
		ofMixed("--a\n--a\n--a--\n", "{<>C<--a\n>H<>B<><>C<--a\n>H<>B<><>E<--a--\n><>}"),
		ofMixed("--a\r\n\r\n--a\r\n--a", "{<>C<--a\r\n>H<>B<><>C<\r\n--a\r\n>H<>B<><>C<--a>H<>B<><>E<><>}"),
		ofMixed("p\n\n--a\n\n\nx\n\n--a--\n\n", "{<p\n>C<\n--a\n>H<\n>B<\nx\n><>E<\n--a--\n><\n>}"),
		// A carriage return that doesn't stand right ahead of the line feed is none of it.
		ofMixed("p\r\r\n--a\n\nx\n\r\n--a--", "{<p\r>C<\r\n--a\n>H<\n>B<x\n><>E<\r\n--a--><>}"),
		// Without a close delimiter the end is the body's.
		ofMixed("--a\n\nx\n", "{<>C<--a\n>H<\n>B<x\n><>E<><>}"),
		ofMixed("--a\n", "{<>C<--a\n>H<>B<><>E<><>}"),
		ofMixed("p\n--a", "{<p>C<\n--a>H<>B<><>E<><>}"),
		// The first close delimiter ends all.
		ofMixed("--a\n--a--\n--a\nx\n--a--\n", "{<>C<--a\n>H<>B<><>E<--a--\n><--a\nx\n--a--\n>}"),
		ofMixed("--a--\n--a\n\nx\n", "B<--a--\n--a\n\nx\n>"),
		ofMixed("p\n--a--", "B<p\n--a-->"),
		// Blanks behind, and nothing else.
		ofMixed("--a \t\r\n\nx\n--a--\t \r\nq", "{<>C<--a \t\r\n>H<\n>B<x><>E<\n--a--\t \r\n><q>}"),
		ofMixed("--a x\n--ab\n--a-\n-- a\n --a\n-a\n--A\n--a\x00\n--a \r\r\n--\n", "B<--a x\n--ab\n--a-\n-- a\n --a\n-a\n--A\n--a\x00\n--a \r\r\n--\n>"),
		ofMixed("--a\n--a -- \n--a---\n--a--x\n--a-- x\n--a--\r", "{<>C<--a\n>H<--a -- \n--a---\n--a--x\n--a-- x\n--a--\r>B<><>E<><>}"),
		ofMixed("--a\v\n--a\xa0\n--a\f\n--a\xc2\xa0\n--a\xc4\xa0\n", "B<--a\v\n--a\xa0\n--a\f\n--a\xc2\xa0\n--a\xc4\xa0\n>"),
		// None within the header, or at its end.
		{"Content-Type: multipart/mixed; boundary=a\n--a\nB: c\n", "H<Content-Type: multipart/mixed; boundary=a\n--a\nB: c\n>B<>"},
		ofMixed("", "B<>"),
		ofMixed("x", "B<x>"),
	})
}

// P12.1: boundaries, as their type tells them.
func TestBoundary(t *testing.T) {
	long := strings.Repeat("a:'()+_,-./=?z", 5)
	for _, c := range []struct {
		parameter, boundary string
		is                  bool
	}{
		{"; boundary=b", "b", true},
		{"; BOUNDARY=B", "B", true},
		{"; boundary=B", "b", false},
		{"; x=y; boundary=b; boundary=c", "b", true},
		{"; x=y; boundary=b; boundary=c", "c", false},
		{"; boundary=\"" + long + "\"", long, true},
		{"; boundary=\"" + long + "a\"", long + "a", false},
		{"; boundary=\"" + long + "a\"", long, false},
		{"; boundary=" + strings.Repeat("x", 70), strings.Repeat("x", 70), true},
		{"; boundary=" + strings.Repeat("x", 71), strings.Repeat("x", 71), false},
		{"; boundary=\"\"", "", false},
		{"", "", false},
		{"; boundary", "", false},
		{"; bound=b", "b", false},
		{"; boundary=\"b c \"", "b c ", true},
		{"; boundary=\"b c \"", "b c", false},
		{"; boundary=\"b--\"", "b--", true},
		{"; boundary=\"-\"", "-", true},
		{"; boundary=\"--\"", "--", true},
		{"; boundary=\"\\\"\\\\\"", "\"\\", true},
		{"; boundary=\"\xff\x00(\"", "\xff\x00(", true},
		{"; boundary*=us-ascii''%62%3A", "b:", true},
		{"; boundary*1=c; boundary*0=b", "bc", true},
		{";\n boundary=b", "b", true},
		{";\r\n\tboundary=\"b\r\n\t c\"", "b\t c", true},
		{"(; boundary=b); boundary=c", "c", true},
		{"; boundary=b c", "b", true},
	} {
		text := "Content-Type: multipart/mixed" + c.parameter + "\n\n--" + c.boundary + "\n\nx\n--" + c.boundary + "--\n"
		p := parse(t, text)
		if (p.Kind == Multi) != c.is {
			t.Errorf("of %q: %v", text, p)
		}
		if got := Count(p); c.is && (got != 2 || p.End.To != len(text) || p.Kids[0].Body.To-p.Kids[0].Body.From != 1) {
			t.Errorf("of %q: %v", text, p)
		}
	}
}

// P12.1: a boundary may be another one's front.
func TestBoundaries(t *testing.T) {
	inner := "Content-Type: multipart/x; boundary=\"a--\"\n\n"
	checkTexts(t, []ofText{
		// What is a close delimiter of the outer one ends it, whatever it would be of the inner one.
		ofMixed("--a\n"+inner+"--a--\n", "{<>C<--a\n>H<"+inner[:len(inner)-1]+">B<><>E<\n--a--\n><>}"),
		ofMixed("--a\n"+inner+"--a----\n\n--a--\n", "{<>C<--a\n>H<"+inner+">B<--a----\n><>E<\n--a--\n><>}"),
		// An inner one of the same boundary has no delimiters.
		ofMixed("--a\n"+mixed+"x\n--a\n\ny\n--a--\nz", "{<>C<--a\n>H<"+mixed+">B<x><>C<\n--a\n>H<\n>B<y><>E<\n--a--\n><z>}"),
		// An inner one's delimiters end with the outer kid.
		ofMixed("--a\nContent-Type: multipart/x; boundary=ab\n\n--ab\n\nx\n--a\n--ab--\n--a--",
			"{<>C<--a\n>H<Content-Type: multipart/x; boundary=ab\n\n>{<>C<--ab\n>H<\n>B<x><>E<><>}<>C<\n--a\n>H<--ab-->B<><>E<\n--a--><>}"),
	})
}

// P12.1: types, and what stands for one that isn't there.
func TestTypes(t *testing.T) {
	for _, c := range []struct {
		field string
		want  int
	}{
		{"Content-Type: multipart/mixed; boundary=a", Multi},
		{"content-TYPE : MULTIPART/Any; boundary=a", Multi},
		{"Content-Type: (x) multipart (y) / (z) x ; boundary = a", Multi},
		{"Content-Type: multipart; boundary=a", Leaf},
		{"Content-Type: multipart/; boundary=a", Leaf},
		{"Content-Type: xmultipart/x; boundary=a", Leaf},
		{"X-Content-Type: multipart/x; boundary=a", Leaf},
		{"Content-Type: text/plain\nContent-Type: multipart/x; boundary=a", Leaf},
		{"Content-Type:\nContent-Type: multipart/x; boundary=a", Leaf},
		{"Content-Type: multipart/x; boundary=a\nContent-Type: text/plain", Multi},
		// How a body that has parts is encoded doesn't matter.
		{"Content-Type: multipart/x; boundary=a\nContent-Transfer-Encoding: base64", Multi},
		{"Content-Type: message/rfc822; boundary=a", Message},
		{"CONTENT-TYPE: Message/RFC822", Message},
		{"Content-Type: message/rfc822 x", Message},
		{"Content-Type: message/rfc2822", Leaf},
		{"Content-Type: message", Leaf},
		{"Content-Type: message/", Leaf},
		{"Content-Type: messages/rfc822", Leaf},
		{"Content-Type: text/plain\nContent-Type: message/rfc822", Leaf},
		{"A: b", Leaf},
	} {
		text := c.field + "\n\n--a\n\nx"
		if p := parse(t, text); p.Kind != c.want {
			t.Errorf("of %q: %v", text, p)
		}
	}
}

// P12.1: in a digest what tells no type is a message, but its own kids aren't.
func TestDigest(t *testing.T) {
	for _, c := range []struct {
		kind, field string
		want        int
	}{
		{"multipart/digest", "", Message},
		{"MULTIPART/DIGEST", "A: b\n", Message},
		{"multipart/digest", "Content-Type:\n", Message},
		{"multipart/digest", "Content-Type: message\n", Message},
		{"multipart/digest", "Content-Type: text/\n", Message},
		{"multipart/digest", "Content-Type: ;a=b\n", Message},
		{"multipart/digest", "Content-Transfer-Encoding: 8bit\n", Message},
		{"multipart/digest", "Content-Transfer-Encoding: base64\n", Leaf},
		{"multipart/digest", "Content-Type: text/plain\n", Leaf},
		{"multipart/digest", "Content-Type: x/y\n", Leaf},
		{"multipart/digests", "", Leaf},
		{"multipart/mixed", "", Leaf},
		{"multipart/mixed", "Content-Type:\n", Leaf},
	} {
		text := "Content-Type: " + c.kind + "; boundary=a\n\n--a\n" + c.field + "\nB: c\n\nx\n--a--"
		p := parse(t, text)
		if p.Kind != Multi || len(p.Kids) != 1 || p.Kids[0].Kind != c.want || Count(p) != 2+c.want/2 {
			t.Errorf("of %q: %v", text, p)
		}
	}
	// Neither what stands in a message, nor in a multi, of a digest is in it.
	text := "Content-Type: multipart/digest; boundary=a\n\n--a\n\nA: b\n\nB: c\n\nx\n--a\n" +
		"Content-Type: multipart/mixed; boundary=b\n\n--b\n\nA: b\n\n--b--\n--a--"
	if p := parse(t, text); Count(p) != 5 || p.Kids[0].Kids[0].Kind != Leaf || p.Kids[1].Kind != Multi || p.Kids[1].Kids[0].Kind != Leaf {
		t.Errorf("of %q: %v", text, p)
	}
	// A digest that has no parts is none.
	if p := parse(t, "Content-Type: multipart/digest\n\nA: b\n\nx"); p.Kind != Leaf {
		t.Errorf("%v", p)
	}
}

// P12.1: a message stands as it is, or is bytes.
func TestEncoding(t *testing.T) {
	for _, c := range []struct {
		value string
		is    bool
	}{
		{"7bit", true}, {"8bit", true}, {"binary", true},
		{"7BIT", true}, {"8Bit", true}, {"BINARY", true}, {" \t7bit\t ", true}, {"\n 7bit", true},
		{"base64", false}, {"quoted-printable", false}, {"BASE64", false}, {"x", false},
		{"7bit x", false}, {"7bit; a=b", false}, {"7 bit", false}, {"7bi", false}, {"7bits", false}, {"(x) 7bit", false},
		// A field without a value is nothing, as one that isn't there; of several the first one is the one.
		{"", true}, {" ", true}, {"7bit\nContent-Transfer-Encoding: base64", true}, {"base64\nContent-Transfer-Encoding: 7bit", false},
		{"\"7bit\"", false}, {"7bit,8bit", false}, {"\x00", false}, {"16bit", false},
	} {
		for _, text := range []string{
			"Content-Type: message/rfc822\nContent-Transfer-Encoding:" + c.value + "\n\nA: b\n\nx",
			"content-transfer-encoding :" + c.value + "\r\nContent-Type: message/rfc822\r\n\r\nA: b\r\n\r\nx",
		} {
			p := parse(t, text)
			want := Leaf
			if c.is {
				want = Message
			}
			if p.Kind != want || Count(p) != 1+want/2 {
				t.Errorf("of %q: %v", text, p)
			}
		}
	}
	checkTexts(t, []ofText{
		{message + "A: b\n\nx", "H<" + message + ">M{H<A: b\n\n>B<x>}"},
		{message, "H<" + message + ">M{H<>B<>}"},
		{message[:len(message)-1], "H<" + message[:len(message)-1] + ">M{H<>B<>}"},
		{message + mixed + "--a\n\nx\n--a--\n", "H<" + message + ">M{H<" + mixed + ">{<>C<--a\n>H<\n>B<x><>E<\n--a--\n><>}}"},
		{message + message + "x", "H<" + message + ">M{H<" + message + ">M{H<x>B<>}}"},
	})
}

// deepest is the part that stands below a part by its first kids.
func deepest(p Part) Part {
	for len(p.Kids) > 0 {
		p = p.Kids[0]
	}
	return p
}

// nested are so many multis, one within the other, each of a boundary of its own.
func nested(n int) string {
	var text strings.Builder
	for i := range n {
		boundary := "b" + strconv.Itoa(i)
		text.WriteString("Content-Type: multipart/x; boundary=" + boundary + "\n\n--" + boundary + "\n")
	}
	return text.String() + "\nx"
}

// P12.1: at the greatest depth all is a leaf.
func TestDepth(t *testing.T) {
	for _, make := range []func(n int) string{
		func(n int) string { return strings.Repeat(message, n) + "\nx" },
		nested,
		func(n int) string {
			return strings.Repeat(message, n/2) + nested(n-n/2)
		},
	} {
		for _, n := range []int{0, 1, 2, 31, 32} {
			text := make(n)
			p := parse(t, text)
			last := deepest(p)
			if Deep(p) != n || Count(p) != n+1 || text[last.Body.From:last.Body.To] != "x" {
				t.Errorf("%d: %d deep, %d parts: %v", n, Deep(p), Count(p), last)
			}
			check(t, text)
		}
		for _, n := range []int{33, 34, 99} {
			text := make(n)
			p := parse(t, text)
			last := deepest(p)
			if Deep(p) != 32 || Count(p) != 33 || last.Kind != Leaf || len(last.Cuts) != 0 || last.End != (api.Span{}) {
				t.Errorf("%d: %d deep, %d parts: %v", n, Deep(p), Count(p), last)
			}
			head := text[last.Head.From:last.Head.To]
			if !strings.HasPrefix(head, "Content-Type: m") || !strings.HasSuffix(head, "\n\n") || last.Body.To != len(text) {
				t.Errorf("%d: %v, of the header %q", n, last, head)
			}
			check(t, text)
		}
	}
}

// many is a multi of so many kids with a boundary, of which the first ones are some.
func many(boundary string, n int, first ...string) string {
	var text strings.Builder
	text.WriteString("Content-Type: multipart/x; boundary=" + boundary + "\n\n")
	for i := range n {
		text.WriteString("--" + boundary + "\n")
		if i < len(first) {
			text.WriteString(first[i] + "\n")
		}
	}
	return text.String() + "--" + boundary + "--\n"
}

// P12.1: parts that would be too many aren't there, and count for nothing.
func TestMany(t *testing.T) {
	for _, c := range []struct {
		text  string
		count int
		kinds []int // those of the first kids
	}{
		{many("a", 998), 999, []int{0}},
		{many("a", 999), 1000, []int{0}},
		{many("a", 1000), 1, nil},
		{many("a", 1500), 1, nil},
		// A part's kids count, all of them, ahead of what stands below them.
		{many("a", 600, many("b", 399)), 1000, []int{1, 0}},
		{many("a", 600, many("b", 400)), 601, []int{0, 0}},
		{many("a", 999, many("b", 1)), 1000, []int{0, 0}},
		{many("a", 998, many("b", 1), many("c", 1)), 1000, []int{1, 0}},
		{many("a", 998, many("b", 2), many("c", 1)), 1000, []int{0, 1}},
		// What doesn't fit leaves room for what stands behind it.
		{many("a", 500, many("b", 400), many("c", 100), many("d", 99), message, many("e", 1)), 1000, []int{1, 0, 1, 0, 0}},
		{many("a", 500, many("b", 400), many("c", 100), many("d", 98), message+"x", message+"x"), 1000, []int{1, 0, 1, 2, 0, 0}},
		// All below the first kid comes ahead of the second one.
		{many("a", 10, many("b", 500, many("c", 480)), many("d", 100), many("e", 9)), 1000, []int{1, 0, 1, 0}},
		{many("a", 10, many("b", 500, many("c", 489)), many("d", 1)), 1000, []int{1, 0, 0}},
		{many("a", 10, many("b", 500, many("c", 490)), many("d", 489)), 1000, []int{1, 1, 0}},
		{message + many("a", 998), 1000, []int{1}},
		{message + many("a", 999), 2, []int{0}},
	} {
		p := parse(t, c.text)
		if Count(p) != c.count || len(p.Kids) < len(c.kinds) {
			t.Errorf("of %.60q: %d parts, not %d; %d kids", c.text, Count(p), c.count, len(p.Kids))
			continue
		}
		for i, kind := range c.kinds {
			if kid := p.Kids[i]; kid.Kind != kind {
				t.Errorf("of %.60q: kid %d is of kind %d, not %d", c.text, i, kid.Kind, kind)
			}
		}
		check(t, c.text)
	}
}

// P12.1: a message is as great as it may be, or none.
func TestBig(t *testing.T) {
	b := make([]byte, api.MaxMessage+1)
	if p, err := Parse(b); err != api.ErrBig || !reflect.DeepEqual(p, Part{}) {
		t.Errorf("%v, %v", p, err)
	}
	front := mixed + "--a\n\n"
	copy(b, front)
	p, err := Parse(b[:api.MaxMessage])
	if err != api.OK || Count(p) != 2 || p.Kids[0].Body != (api.Span{From: len(front), To: api.MaxMessage}) {
		t.Errorf("%v, %v", p, err)
	}
	if p, err := Parse(b); err != api.ErrBig || !reflect.DeepEqual(p, Part{}) {
		t.Errorf("%v, %v", p, err)
	}
}

// appendToAll appends to all lists of a part, and of those below it.
func appendToAll(p Part) {
	_ = append(p.Kids, Part{Kind: 9})
	_ = append(p.Cuts, api.Span{From: 9, To: 9})
	for _, kid := range p.Kids {
		appendToAll(kid)
	}
}

// P12.1: trees are of new memory, and the same ones of the same bytes.
func TestNew(t *testing.T) {
	text := many("a", 3, many("b", 2), message+many("c", 2), "\nx")
	b := []byte(text)
	p, _ := Parse(b)
	again, _ := Parse(b)
	appendToAll(p)
	p.Kids[0].Kids[0].Kind = 9
	p.Cuts[1].From = -9
	clear(b)
	if want := treeWanted(text); !reflect.DeepEqual(again, want) {
		t.Errorf("%v, not %v", again, want)
	}
	p.Kids[0].Kids[0].Kind = Leaf
	p.Cuts[1].From = again.Cuts[1].From
	if !reflect.DeepEqual(p, again) {
		t.Errorf("%v, not %v", p, again)
	}
}

// P12.2: parts are counted, and their depth, whatever they are.
func TestCount(t *testing.T) {
	leaf := Part{}
	of := func(kids ...Part) Part { return Part{Kids: kids} }
	for _, c := range []struct {
		p           Part
		count, deep int
	}{
		{leaf, 1, 0},
		{Part{Kids: []Part{}}, 1, 0},
		{Part{Kind: Multi, Cuts: make([]api.Span, 3)}, 1, 0},
		{Part{Kind: -7}, 1, 0},
		{of(leaf), 2, 1},
		{of(leaf, leaf, leaf), 4, 1},
		{of(of(leaf), leaf), 4, 2},
		{of(leaf, of(leaf)), 4, 2},
		{of(of(of(leaf, leaf)), of(leaf), leaf), 8, 3},
		{of(leaf, of(leaf, of(leaf, of(leaf)))), 8, 4},
		{Part{Kind: Message, Kids: []Part{leaf, leaf}}, 3, 1},
		{Part{Kind: 99, Kids: []Part{{Kind: Leaf, Kids: []Part{leaf}}}}, 3, 2},
	} {
		if count, deep := Count(c.p), Deep(c.p); count != c.count || deep != c.deep {
			t.Errorf("of %v: %d, %d", c.p, count, deep)
		}
	}
	p := leaf
	for range 1 << 16 {
		p = of(p)
	}
	if count, deep := Count(p), Deep(p); count != 1<<16+1 || deep != 1<<16 {
		t.Errorf("of parts within parts: %d, %d", count, deep)
	}
	p = leaf
	for range 1100 {
		p.Kids = append(p.Kids, leaf)
	}
	if count, deep := Count(p), Deep(p); count != 1101 || deep != 1 {
		t.Errorf("of many parts: %d, %d", count, deep)
	}
}

// eachText tells all texts of at most so many pieces, behind a front.
func eachText(front string, pieces []string, most int, tell func(text string)) {
	tell(front)
	if most == 0 {
		return
	}
	for _, piece := range pieces {
		eachText(front+piece, pieces, most-1, tell)
	}
}

// P12.1, P12.3: bodies of all short rows of what makes lines and delimiters.
func TestShort(t *testing.T) {
	tell := func(text string) { check(t, text) }
	eachText(mixed, []string{"--a", "--", "-", "a", " ", "\r", "\n", "\r\n"}, 5, tell)
	eachText("", []string{"Content-Type: multipart/x; boundary=\"-\"\r\n", "---", "--", "-", "\r\n", "\n"}, 6, tell)
}

// P12.1, P12.3: all short rows of lines of parts within parts.
func TestLines(t *testing.T) {
	tell := func(text string) { check(t, text) }
	eachText("", []string{
		"Content-Type: multipart/digest; boundary=a\n",
		"Content-Type: multipart/mixed; boundary=\"b\"\r\n",
		"Content-Type: message/rfc822\n",
		"Content-Transfer-Encoding: base64\n",
		"\r\n", "--a\n", "--a--\r\n", "--b\n", "--b--\n",
	}, 5, tell)
	eachText("Content-Type: multipart/digest; boundary=a\n\n--a\n", []string{
		"Content-Type: multipart/mixed; boundary=b\n\n",
		"\n", "--a\r\n", "--b\r\n", "--b--\n", "x\r\n",
	}, 6, tell)
}

// P12.1, P12.3: long rows of lines, many parts among them.
func TestLong(t *testing.T) {
	pieces := []string{
		"Content-Type: multipart/digest; boundary=a\n\n", "Content-Type: multipart/mixed; boundary=b\r\n\r\n",
		"Content-Type: multipart/x;\n boundary=c\nA: b\n\n", message, "Content-Transfer-Encoding: 8BIT\n" + message,
		"Content-Transfer-Encoding: x\n" + message, "\n", "\r\n", "x\n", "--a\n", "--a\r\n", "--b\n", "--b \n", "--c\r\n", "--c\n", "--c--\n", "--b--\n", "\nx\r\n--b\n",
	}
	state := uint32(1)
	deep, count := 0, 0
	for n := range 6000 {
		text := []byte(pieces[n%5])
		for range n % 90 {
			state = state*1664525 + 1013904223
			text = append(text, pieces[state>>16%uint32(len(pieces))]...)
		}
		check(t, string(text))
		p := parse(t, string(text))
		deep, count = max(deep, Deep(p)), max(count, Count(p))
	}
	if deep < 6 || count < 12 {
		t.Errorf("%d deep, %d parts at most", deep, count)
	}
}

// P12.1: each byte in each place of a message: it is one, whatever it has.
func TestBytes(t *testing.T) {
	text := "Content-Type: multipart/x; boundary=a\r\n\r\n--a\r\n\r\nx\r\n--a--\r\n"
	for at := range text {
		for c := range 256 {
			b := []byte(text)
			b[at] = byte(c)
			p, err := Parse(b)
			if err != api.OK {
				t.Fatalf("of %q: %v", b, err)
			}
			checkPart(t, string(b), p, 0, len(b))
		}
		b := []byte(text[:at])
		p, err := Parse(b)
		if err != api.OK || !bytes.Equal(b, []byte(text[:at])) {
			t.Fatalf("of %q: %v", b, err)
		}
		checkPart(t, string(b), p, 0, len(b))
	}
}
