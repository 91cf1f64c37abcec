package envelope

import (
	"math"
	"math/rand"
	"reflect"
	"slices"
	"strings"
	"testing"

	"letterbox/addr"
	"letterbox/api"
	"letterbox/tree"
)

// example is a message with all fields.
const example = "Date: Thu, 1 Jan 1970 01:00:00 +0100 (CET)\r\n" +
	"From: A B <a@b>\r\n" +
	"Sender: s@t\r\n" +
	"Reply-To: R <r@s>, q@r\r\n" +
	"To: G: x@y, Z;\r\n" +
	"Cc: c@d,\r\n e@f\r\n" +
	"Bcc: <\"h i\"@[j k]>\r\n" +
	"Subject: A =?utf-8?Q?b?=\r\n \"c\"\r\n" +
	"In-Reply-To: <1@x>\r\n" +
	"Message-ID: <2@x>\r\n" +
	"\r\nFrom: nobody\r\n"

// of is an envelope with all texts, some of which are told as nothing.
func of(date, subject, reply, id string) Envelope {
	return Envelope{Date: date, Subject: subject, Reply: reply, Id: id, Has: [4]bool{true, true, true, true}}
}

// P19.1: all of an envelope.
func TestAll(t *testing.T) {
	want := of("Thu, 1 Jan 1970 01:00:00 +0100 (CET)", "A =?utf-8?Q?b?= \"c\"", "<1@x>", "<2@x>")
	want.Lists = lists(
		list(box("A B", "a", "b")),
		list(box("", "s", "t")),
		list(box("R", "r", "s"), box("", "q", "r")),
		list(begin("G"), box("", "x", "y"), box("", "Z", ""), end()),
		list(box("", "c", "d"), box("", "e", "f")),
		list(box("", "h i", "[j k]")),
	)
	checkOf(t, example, parse(t, example), want)
	small := strings.ToLower(example)
	got := Of([]byte(small), parse(t, small))
	if got.Date != strings.ToLower(want.Date) || got.Has != want.Has || len(got.Lists[3]) != 4 {
		t.Errorf("Of small letters: %s", shown(got))
	}
	checkPut(t, want)
	put := `("Thu, 1 Jan 1970 01:00:00 +0100 (CET)" "A =?utf-8?Q?b?= \"c\"" (("A B" NIL "a" "b")) ((NIL NIL "s" "t"))` +
		` (("R" NIL "r" "s")(NIL NIL "q" "r")) ((NIL NIL "G" NIL)(NIL NIL "x" "y")(NIL NIL "Z" NIL)(NIL NIL NIL NIL))` +
		` ((NIL NIL "c" "d")(NIL NIL "e" "f")) ((NIL NIL "h i" "[j k]")) "<1@x>" "<2@x>")`
	if got := Put(Of([]byte(example), parse(t, example))); got != put {
		t.Errorf("Put: %s, not %s", got, put)
	}
}

// P19.1, P19.2: a message without a header, and other parts with nothing to tell.
func TestNothing(t *testing.T) {
	const ten = "(NIL NIL NIL NIL NIL NIL NIL NIL NIL NIL)"
	for _, text := range []string{
		"", "\r\n", "\n", "\r\nDate: x\r\nFrom: a@b\r\n", "\nSubject: x", "body", " Subject: x\r\n\r\n", ": x\r\n\r\n",
		"X-Date: x\r\nDates: x\r\nResent-From: a\r\nX-To: b\r\nReply: c\r\nReferences: d\r\nId: e\r\nMessage: f\r\nIn-Reply: g\r\n\r\n",
		"Resent-Date: x\nResent-Message-ID: x\n\n", "Date x\nSubject\n\n", "Dat: x\nSubjects: y\nMessageID: z\nInReplyTo: a\nReplyTo: b\n\n",
	} {
		checkOf(t, text, parse(t, text), Envelope{})
		if got := Put(Of([]byte(text), parse(t, text))); got != ten {
			t.Errorf("Put of %q: %s", text, got)
		}
	}
	if got := Put(Envelope{}); got != ten {
		t.Errorf("Put of nothing: %s", got)
	}
	checkPut(t, Envelope{})
}

// P19.1: each text of its own, and whether it is there.
func TestTexts(t *testing.T) {
	names := []string{"Date", "Subject", "In-Reply-To", "Message-ID"}
	for place, name := range names {
		for _, c := range []struct{ body, want string }{
			{":x", "x"}, {": x", "x"}, {" \t: x \t", "x"}, {":", ""}, {": \t", ""}, {":\r\n \t", ""},
			{": a\r\n b\n\tc", "a b\tc"}, {": a:b", "a:b"}, {": =?utf-8?Q?x?=", "=?utf-8?Q?x?="}, {": (x) \"y\"", "(x) \"y\""},
			{": \xff\x00\xc3\xa4", "\xff\x00\xc3\xa4"}, {": " + strings.Repeat("x", 2000), strings.Repeat("x", 2000)},
			{": x\r\n" + name + ": y", "x"}, {":\r\n" + name + ": y", ""}, {": x\r\n" + strings.ToUpper(name) + ": y", "x"},
		} {
			for _, written := range []string{name, strings.ToUpper(name), strings.ToLower(name)} {
				for _, text := range []string{written + c.body + "\r\n\r\n", "X: y\n" + written + c.body, written + c.body + "\nX: y\n\n"} {
					var want Envelope
					*[]*string{&want.Date, &want.Subject, &want.Reply, &want.Id}[place] = c.want
					want.Has[place] = true
					checkOf(t, text, parse(t, text), want)
					checkPut(t, want)
				}
			}
		}
	}
}

// P19.1: each list of its own, and those of others that have none.
func TestLists(t *testing.T) {
	for place, name := range []string{"From", "Sender", "Reply-To", "To", "Cc", "Bcc"} {
		for _, c := range []struct {
			body string
			want []addr.Address
		}{
			{":a@b", list(box("", "a", "b"))},
			{": A \"B C\" <d@e>", list(box("A B C", "d", "e"))},
			{": a,\r\n\tb@c (x)", list(box("", "a", ""), box("", "b", "c"))},
			{": G:;", list(begin("G"), end())},
			{": :;", list(begin(""), end())},
			{": <@x:a@b>", list(box("", "a", "b"))},
			{": =?utf-8?Q?x?= <a@b>", list(box("=?utf-8?Q?x?=", "a", "b"))},
			{": \"\" <\"\"@b>", list(box("", "", "b"))},
			{":", nil}, {": ,", nil}, {": (a@b)", nil}, {":\r\n ,", nil},
			{": a@", nil}, {": a@b;", nil}, {": a@b,c@d@e", nil}, {": <a@b", nil}, {": G: a@b", nil}, {": \x00a@b", nil},
			// The first one counts, also if it tells nothing.
			{": a\r\n" + name + ": b", list(box("", "a", ""))},
			{":\r\n" + name + ": b", nil},
			{": a@\r\n" + strings.ToUpper(name) + ": b", nil},
		} {
			text := name + c.body + "\r\nX: <z@z>\r\n\r\n"
			var want Envelope
			want.Lists[place] = c.want
			if place == 0 {
				want.Lists[1], want.Lists[2] = c.want, c.want
			}
			checkOf(t, text, parse(t, text), want)
			checkPut(t, want)
			if place == 1 || place == 2 {
				from := list(box("F", "f", "g"), begin("H"), end())
				want.Lists[0], want.Lists[3-place] = from, from
				if len(c.want) == 0 {
					want.Lists[place] = from
				}
				checkOf(t, "From: F <f@g>, H:;\r\n"+text, parse(t, "From: F <f@g>, H:;\r\n"+text), want)
				checkOf(t, text[:len(text)-2]+"From: F <f@g>, H:;\r\n", headed(text[:len(text)-2]+"From: F <f@g>, H:;\r\n"), want)
				checkPut(t, want)
			}
		}
	}
}

// P19.1: From tells two others, but none tells From, nor To, Cc, Bcc; a broken From tells nothing.
func TestFromAlone(t *testing.T) {
	one := list(box("", "a", "b"))
	for _, c := range []struct {
		text string
		want [6][]addr.Address
	}{
		{"From: a@b\n\n", lists(one, one, one)},
		{"Sender: a@b\n\n", lists(nil, one)},
		{"Reply-To: a@b\n\n", lists(nil, nil, one)},
		{"Sender: a@b\nReply-To: a@b\n\n", lists(nil, one, one)},
		{"To: a@b\n\n", lists(nil, nil, nil, one)},
		{"Cc: a@b\nFrom:\n\n", lists(nil, nil, nil, nil, one)},
		{"Bcc: a@b\nFrom: x@\n\n", lists(nil, nil, nil, nil, nil, one)},
		{"From: x@\nFrom: a@b\n\n", lists()},
		{"From: x@\nSender: a@b\n\n", lists(nil, one)},
		{"From: a@b\nSender: x@\nReply-To: ,\nTo: x@\nCc: ,\nBcc:\n\n", lists(one, one, one)},
		{"From: a@b\nSender: G:;\nReply-To: :;\n\n", lists(one, list(begin("G"), end()), list(begin(""), end()))},
	} {
		checkOf(t, c.text, parse(t, c.text), Envelope{Lists: c.want})
	}
}

// P19.1: the part's own header counts alone, wherever it stands.
func TestParts(t *testing.T) {
	inner := "Subject: in\r\nFrom: i@n\r\n\r\nSubject: body\r\n"
	outer := "Subject: out\r\nContent-Type: message/rfc822\r\n\r\n"
	p := parse(t, outer+inner)
	checkOf(t, outer+inner, p, Envelope{Subject: "out", Has: [4]bool{false, true}})
	one := list(box("", "i", "n"))
	checkOf(t, outer+inner, p.Kids[0], Envelope{Subject: "in", Has: [4]bool{false, true}, Lists: lists(one, one, one)})

	multi := "Content-Type: multipart/mixed; boundary=x\nTo: o\n\nDate: pre\n--x\nDate: one\n\nTo: a\n--x\n\nDate: two\n--x--\nDate: post\n"
	p = parse(t, multi)
	checkOf(t, multi, p, Envelope{Lists: lists(nil, nil, nil, list(box("", "o", "")))})
	checkOf(t, multi, p.Kids[0], Envelope{Date: "one", Has: [4]bool{true}})
	checkOf(t, multi, p.Kids[1], Envelope{})
}

// P19.1: of parts that Parse doesn't make, what header.Of tells of their Head; wrong places tell nothing.
func TestOtherParts(t *testing.T) {
	const text = "Date: a\nSubject: b\nTo: c@d\n\nDate: e\nBcc: f\n"
	both := Envelope{Date: "a", Subject: "b", Has: [4]bool{true, true}}
	for _, c := range []struct {
		from, to int
		want     Envelope
	}{
		{0, 19, both},
		{0, 18, both},
		{0, 17, Envelope{Date: "a", Has: both.Has}},
		{0, 16, Envelope{Date: "a", Has: both.Has}},
		{0, 15, Envelope{Date: "a", Has: [4]bool{true}}},
		{8, 19, Envelope{Subject: "b", Has: [4]bool{false, true}}},
		{9, 19, Envelope{}},
		{28, len(text), Envelope{Date: "e", Has: [4]bool{true}, Lists: lists(nil, nil, nil, nil, nil, list(box("", "f", "")))}},
		{27, len(text), Envelope{}},
		{0, 0, Envelope{}},
		{8, 8, Envelope{}},
		{8, 7, Envelope{}},
		{-1, 19, Envelope{}},
		{0, len(text) + 1, Envelope{}},
		{19, -1, Envelope{}},
		{math.MinInt, math.MaxInt, Envelope{}},
		{math.MaxInt, math.MinInt, Envelope{}},
		{math.MaxInt, math.MaxInt, Envelope{}},
	} {
		head := api.Span{From: c.from, To: c.to}
		checkOf(t, text, tree.Part{Head: head}, c.want)
		// Nothing but Head counts.
		checkOf(t, text, tree.Part{Kind: -7, Head: head, Body: api.Span{From: -3, To: 900}, Kids: []tree.Part{headed(text)}, End: api.Span{From: 5, To: 1}}, c.want)
	}
	for _, head := range []api.Span{{}, {From: 0, To: 1}, {From: -1, To: 0}, {From: 3, To: 3}} {
		checkOf(t, "", tree.Part{Head: head}, Envelope{})
		if got := Of(nil, tree.Part{Head: head}); !same(got, Envelope{}) {
			t.Errorf("Of(nil, %v) = %s", head, shown(got))
		}
	}
}

// P19.1: headers that are drawn: the first field of a name counts, in any order, among others.
func TestDrawnHeaders(t *testing.T) {
	type value struct {
		body, text string
		told       []addr.Address
	}
	values := []value{
		{"", "", nil},
		{" x@y ", "x@y", list(box("", "x", "y"))},
		{"\t<x>,", "<x>,", list(box("", "x", ""))},
		{" G: x;", "G: x;", list(begin("G"), box("", "x", ""), end())},
		{" N\r\n <a@b>", "N <a@b>", list(box("N", "a", "b"))},
		{" a@b@c", "a@b@c", nil},
		{" \"q\\\"\n\t\" <r>", "\"q\\\"\t\" <r>", list(box("q\"\t", "r", ""))},
		{" ,(z", ",(z", nil},
	}
	names := []string{"date", "subject", "from", "sender", "reply-to", "to", "cc", "bcc", "in-reply-to", "message-id"}
	r := rand.New(rand.NewSource(19))
	for range 20000 {
		text, firsts := "", map[string]value{}
		for range r.Intn(14) {
			name, v := drawn(r, names...), drawn(r, values...)
			if _, is := firsts[name]; !is {
				firsts[name] = v
			}
			text += drawn(r, strings.ToUpper(name), name, strings.ToUpper(name[:1])+name[1:]) + drawn(r, ":", " :", "\t:") + v.body + drawn(r, "\n", "\r\n")
			text += drawn(r, "", "", "X-Other: a@b\n", "no field\n Date: z\n", "Dates: 1\r\n")
		}
		var want Envelope
		want.Date, want.Subject = firsts["date"].text, firsts["subject"].text
		want.Reply, want.Id = firsts["in-reply-to"].text, firsts["message-id"].text
		for place, name := range []string{"date", "subject", "in-reply-to", "message-id"} {
			_, want.Has[place] = firsts[name]
		}
		for place, name := range names[2:8] {
			want.Lists[place] = firsts[name].told
		}
		for place := 1; place < 3; place++ {
			if len(want.Lists[place]) == 0 {
				want.Lists[place] = want.Lists[0]
			}
		}
		text += drawn(r, "", "\n", "\r\nDate: body\nTo: body\n")
		checkOf(t, text, parse(t, text), want)
		checkPut(t, Of([]byte(text), parse(t, text)))
	}
}

// P19.1: what is answered is new memory, and no two lists share any.
func TestNewMemory(t *testing.T) {
	for _, text := range []string{
		example,
		"From: a@b, c@d\r\nSubject: x\r\n\r\n",
		"From: a@b, c@d\r\nSender: ,\r\nReply-To: x@\r\n\r\n",
		"From: a@b\r\nSender: s@t, u@v\r\n\r\n",
	} {
		b := []byte(text)
		p := parse(t, text)
		first, second := Of(b, p), Of(b, p)
		was := Put(first)
		for i := range b {
			b[i] = 'x'
		}
		if Put(first) != was {
			t.Fatalf("Of(%q) is changed with its bytes: %s", text, shown(first))
		}
		for place := range first.Lists {
			before := first
			for other := range before.Lists {
				before.Lists[other] = slices.Clone(before.Lists[other])
			}
			for i := range first.Lists[place] {
				first.Lists[place][i] = box("new", "new", "new")
			}
			_ = append(first.Lists[place], box("more", "more", "more"))
			before.Lists[place] = first.Lists[place]
			if !reflect.DeepEqual(before.Lists, first.Lists) {
				t.Fatalf("list %d of Of(%q) shares memory with another", place, text)
			}
		}
		if Put(second) != was {
			t.Fatalf("two answers of Of(%q) share memory", text)
		}
	}
}

// P19.2: lists of addresses.
func TestList(t *testing.T) {
	for _, c := range []struct {
		of   []addr.Address
		want string
	}{
		{nil, "NIL"},
		{list(), "NIL"},
		{make([]addr.Address, 0, 3), "NIL"},
		{list(box("N", "l", "h")), `(("N" NIL "l" "h"))`},
		{list(box("", "l", "h")), `((NIL NIL "l" "h"))`},
		{list(box("N", "l", "")), `(("N" NIL "l" NIL))`},
		{list(box("N", "", "h")), `(("N" NIL "" "h"))`},
		{list(box("", "", "")), `((NIL NIL "" NIL))`},
		{list(begin("G")), `((NIL NIL "G" NIL))`},
		{list(begin("")), `((NIL NIL "" NIL))`},
		{list(end()), `((NIL NIL NIL NIL))`},
		{list(box("A", "b", "c"), box("D", "e", "f")), `(("A" NIL "b" "c")("D" NIL "e" "f"))`},
		{list(begin("G"), box("", "b", "c"), end(), box("", "d", "")), `((NIL NIL "G" NIL)(NIL NIL "b" "c")(NIL NIL NIL NIL)(NIL NIL "d" NIL))`},
		// What a kind has no use for doesn't count.
		{list(addr.Address{Kind: 1, Name: "G", Local: "l", Host: "h"}), `((NIL NIL "G" NIL))`},
		{list(addr.Address{Kind: 2, Name: "G", Local: "l", Host: "h"}), `((NIL NIL NIL NIL))`},
		{list(addr.Address{Kind: 3, Name: "G", Local: "l", Host: "h"}), `((NIL NIL NIL NIL))`},
		{list(addr.Address{Kind: -1, Name: "G", Local: "l", Host: "h"}), `((NIL NIL NIL NIL))`},
		{list(addr.Address{Kind: math.MaxInt}, addr.Address{Kind: math.MinInt}), `((NIL NIL NIL NIL)(NIL NIL NIL NIL))`},
		// NIL is a text here, and so are spaces and brackets.
		{list(box("NIL", "NIL", "NIL")), `(("NIL" NIL "NIL" "NIL"))`},
		{list(box(" ", " ", " ")), `((" " NIL " " " "))`},
		{list(box("(", ")", "[ ]")), `(("(" NIL ")" "[ ]"))`},
		{list(box(`a"b`, `\`, `"`)), `(("a\"b" NIL "\\" "\""))`},
		{list(begin(`"G"`)), `((NIL NIL "\"G\"" NIL))`},
		{list(box("é", "\r\n", "\x00")), "(({2}\r\né NIL {2}\r\n\r\n ~{1}\r\n\x00))"},
		{list(begin("\x00é")), "((NIL NIL ~{3}\r\n\x00é NIL))"},
	} {
		if got := List(c.of); got != c.want {
			t.Errorf("List(%s) = %q, not %q", shown(c.of), got, c.want)
		}
		checkPut(t, Envelope{Lists: lists(c.of, nil, c.of, c.of)})
	}
}

// P19.2: each text by its Has, whatever it is.
func TestHas(t *testing.T) {
	for has := range 16 {
		e := of("d", "s", "r", "i")
		for place := range e.Has {
			e.Has[place] = has>>place&1 == 1
		}
		checkPut(t, e)
		e.Date, e.Subject, e.Reply, e.Id = "", "", "", ""
		checkPut(t, e)
	}
	for _, c := range []struct {
		of   Envelope
		want string
	}{
		{of("d", "s", "r", "i"), `("d" "s" NIL NIL NIL NIL NIL NIL "r" "i")`},
		{of("", "", "", ""), `("" "" NIL NIL NIL NIL NIL NIL "" "")`},
		{Envelope{Date: "d", Subject: "s", Reply: "r", Id: "i"}, `(NIL NIL NIL NIL NIL NIL NIL NIL NIL NIL)`},
		{of("NIL", " ", "()", `"`), `("NIL" " " NIL NIL NIL NIL NIL NIL "()" "\"")`},
	} {
		if got := Put(c.of); got != c.want {
			t.Errorf("Put(%s) = %q, not %q", shown(c.of), got, c.want)
		}
	}
}

// P19.2: the lists stand in their order, each in its place.
func TestOrder(t *testing.T) {
	e := of("d", "s", "r", "i")
	for place := range e.Lists {
		e.Lists[place] = list(begin(string(rune('0' + place))))
	}
	want := `("d" "s" ((NIL NIL "0" NIL)) ((NIL NIL "1" NIL)) ((NIL NIL "2" NIL)) ((NIL NIL "3" NIL)) ((NIL NIL "4" NIL)) ((NIL NIL "5" NIL)) "r" "i")`
	if got := Put(e); got != want {
		t.Errorf("Put(%s) = %q, not %q", shown(e), got, want)
	}
	for one := range 64 {
		for place := range e.Lists {
			e.Lists[place] = slices.Repeat(list(box("n", "l", "h")), one>>place&1)
		}
		checkPut(t, e)
	}
}

// P19.2, P19.3: each byte in each text.
func TestBytes(t *testing.T) {
	for c := range 256 {
		for _, text := range []string{string([]byte{byte(c)}), "a" + string([]byte{byte(c)}) + "b", string([]byte{byte(c), byte(c)})} {
			e := of(text, text, text, text)
			e.Lists = lists(list(box(text, text, text)), list(begin(text)), list(box("", text, "h")), list(box(text, "l", ""), end()))
			checkPut(t, e)
		}
	}
}

// P19.2, P19.3: long texts, at the edge of those that stand between quotes.
func TestLong(t *testing.T) {
	for _, n := range []int{999, 1000, 1001, 5000, 70000} {
		for _, piece := range []string{"a", `"`, `\`, "(", "\xff", "\x00"} {
			text := strings.Repeat(piece, n)
			e := of(text, text, text, text)
			e.Lists = lists(list(box(text, text, text), begin(text)))
			checkPut(t, e)
		}
	}
	e := Envelope{Lists: lists(slices.Repeat(list(box("n", "l", "h"), begin("g"), end()), 3000))}
	checkPut(t, e)
}

// P19.3: envelopes that are drawn are ten tokens or lists, and read as they were.
func TestDrawn(t *testing.T) {
	texts := []string{"", "a", "NIL", "nil", "(", ")", "()", " ", "[", "]", "{3}", "{3}\r\n", "~{1}\r\n\x00", "\"", "\\", "\\\"", "a b", "\r\n", "é", "\x00", "\x7f", strings.Repeat("x", 1001)}
	r := rand.New(rand.NewSource(193))
	for range 5000 {
		text := func() string { return drawn(r, texts...) + drawn(r, texts...) }
		e := of(text(), text(), text(), text())
		for place := range e.Has {
			e.Has[place] = r.Intn(3) > 0
		}
		for place := range e.Lists {
			for range r.Intn(4) {
				e.Lists[place] = append(e.Lists[place], addr.Address{Kind: r.Intn(5) - 1, Name: text(), Local: text(), Host: text()})
			}
		}
		checkPut(t, e)
	}
}

// P19.3: what comes of messages of any bytes are ten tokens or lists, too.
func TestAnyMessages(t *testing.T) {
	pieces := []string{"Date", "Subject", "FROM", "sender", "Reply-To", "To", "Cc", "Bcc", "In-Reply-To", "Message-ID", ":", ": ", "\n", "\r\n", "\r\n ", "\r", "a@b", "<", ">", "A ", "G:", ";", ",", "\"", "(", ")", "\\", "\x00", "\xc3", "=?utf-8?Q?x?="}
	r := rand.New(rand.NewSource(1933))
	for range 20000 {
		text := ""
		for range r.Intn(24) {
			text += drawn(r, pieces...)
		}
		e := Of([]byte(text), parse(t, text))
		checkPut(t, e)
		again := Of([]byte(text), parse(t, text))
		if !same(e, again) {
			t.Fatalf("two answers to Of(%q): %s and %s", text, shown(e), shown(again))
		}
	}
}
