package fetch

import (
	"bytes"
	"math"
	"reflect"
	"slices"
	"strings"
	"testing"

	"letterbox/api"
	"letterbox/section"
	"letterbox/tree"
)

// parse is the tree of a text.
func parse(t *testing.T, text string) tree.Part {
	t.Helper()
	p, err := tree.Parse([]byte(text))
	if err != api.OK {
		t.Fatalf("Parse(%.60q): %v", text, err)
	}
	return p
}

// span are bytes from one on, below another one.
func span(from, to int) api.Span { return api.Span{From: from, To: to} }

// letter is a message of all kinds of parts: a text, a message of one part, a Multi, and a message that is a Multi.
const letter = "Subject: all\r\nContent-Type: multipart/mixed; boundary=a\r\n\r\npre\r\n" +
	"--a\r\nX-Part: 1\r\n\r\none\r\n" +
	"--a\r\nContent-Type: message/rfc822\r\n\r\nSubject: two\r\nTo: b\r\n\r\nin two\r\n" +
	"--a\r\nContent-Type: multipart/mixed; boundary=b\r\n\r\n--b\r\n\r\nthree one\r\n--b\r\n\r\nthree two\r\n--b--\r\n" +
	"--a\r\nContent-Type: message/rfc822\r\n\r\nSubject: four\r\nContent-Type: multipart/mixed; boundary=c\r\n\r\n--c\r\nX-Part: 4.1\r\n\r\nfour one\r\n--c--\r\n" +
	"--a--\r\npost"

// P16.1: parts of a message, by their bodies.
func TestFind(t *testing.T) {
	p := parse(t, letter)
	for _, c := range []struct {
		path string
		body string
	}{
		{".1", "one"},
		{".2", "Subject: two\r\nTo: b\r\n\r\nin two"},
		{".2.1", "in two"},
		{".3", "--b\r\n\r\nthree one\r\n--b\r\n\r\nthree two\r\n--b--"},
		{".3.1", "three one"},
		{".3.2", "three two"},
		{".4.1", "four one"},
	} {
		part, is := Find(p, pathOf(c.path))
		if body := letter[part.Body.From:part.Body.To]; !is || body != c.body {
			t.Errorf("%s: %q, %v", c.path, body, is)
		}
	}
	for _, path := range []string{"", ".0", ".5", ".-1", ".1.1", ".1.0", ".2.2", ".2.1.1", ".2.0", ".3.0", ".3.3", ".3.1.1", ".4.2", ".4.1.1", ".0.1", ".5.1", ".9223372036854775807"} {
		part, is := Find(p, pathOf(path))
		if is || !reflect.DeepEqual(part, tree.Part{}) {
			t.Errorf("%s: %v, %v", path, part, is)
		}
	}
}

// P16.1: part 1 of a message that is no Multi is the message itself, also if it is a Message in turn; below that it is none.
func TestFindItself(t *testing.T) {
	for _, c := range []struct {
		text string
		deep int
	}{
		{"", 1},
		{"A: b\n\nx", 1},
		{"Content-Type: message/rfc822\n\nA: b\n\nx", 2},
		{"Content-Type: message/rfc822\n\nContent-Type: message/rfc822\n\nx", 3},
		{"Content-Type: multipart/mixed; boundary=a\n\nx", 1},
	} {
		p := parse(t, c.text)
		want := p
		for n := 1; n <= c.deep; n++ {
			part, is := Find(p, slices.Repeat([]int{1}, n))
			if !is || !reflect.DeepEqual(part, want) {
				t.Errorf("%d times 1 of %q: %v, %v", n, c.text, part, is)
			}
			if len(want.Kids) > 0 {
				want = want.Kids[0]
			}
		}
		if part, is := Find(p, slices.Repeat([]int{1}, c.deep+1)); is {
			t.Errorf("of %q: %v is one too many", c.text, part)
		}
	}
}

// P16.1: all short paths of messages of all kinds of parts, and of each of their parts as a message.
func TestFindAll(t *testing.T) {
	found := 0
	for _, text := range append(messages(), letter) {
		p := parse(t, text)
		for message := range everyPart(p) {
			all := partsOfMessage(message)
			seen := 0
			eachRow(5, -1, 5, func(path []int) {
				if checkFind(t, message, all, path) {
					seen++
				}
			})
			if seen != len(all) {
				t.Fatalf("of %q: %d of %d parts", text, seen, len(all))
			}
			found += seen
		}
	}
	if found < 100 {
		t.Errorf("%d parts", found)
	}
}

// everyPart tells a part and all that stand in it.
func everyPart(p tree.Part) func(yield func(tree.Part) bool) {
	return func(yield func(tree.Part) bool) {
		left := []tree.Part{p}
		for len(left) > 0 {
			next := left[0]
			left = append(left[1:], next.Kids...)
			if !yield(next) {
				return
			}
		}
	}
}

// P16.1: parts that no message has: without kids, with more of them than may be, of no kind.
func TestFindByHand(t *testing.T) {
	leaf := func(at int) tree.Part { return tree.Part{Head: span(at, at+1), Body: span(at+1, at+2)} }
	multi := tree.Part{Kind: tree.Multi, Kids: []tree.Part{leaf(0), leaf(2)}}
	kinds := []tree.Part{
		leaf(4),
		multi,
		{Kind: tree.Multi},
		{Kind: tree.Message},
		{Kind: tree.Message, Kids: []tree.Part{leaf(0), leaf(2)}},
		{Kind: tree.Message, Kids: []tree.Part{multi, leaf(4)}},
		{Kind: tree.Leaf, Kids: []tree.Part{leaf(0)}},
		{Kind: tree.Message, Kids: []tree.Part{{Kind: tree.Message}}},
		{Kind: tree.Message, Kids: []tree.Part{{Kind: tree.Message, Kids: []tree.Part{multi}}}},
	}
	for _, kind := range kinds {
		for _, p := range []tree.Part{kind, {Kind: tree.Multi, Kids: []tree.Part{kind}}, {Kind: tree.Message, Kids: []tree.Part{kind}}} {
			all := partsOfMessage(p)
			eachRow(5, 0, 3, func(path []int) { checkFind(t, p, all, path) })
		}
	}
	for _, kind := range []int{-1, 3, math.MaxInt} {
		p := tree.Part{Kind: kind, Kids: []tree.Part{leaf(0)}}
		if part, is := Find(p, []int{1}); !is || !reflect.DeepEqual(part, p) {
			t.Errorf("of kind %d: %v, %v", kind, part, is)
		}
		if part, is := Find(p, []int{2}); is {
			t.Errorf("of kind %d: %v", kind, part)
		}
		Find(p, []int{1, 1})
	}
}

// P16.1: paths as long as parts are deep, and longer ones; parts of many kids.
func TestFindEdges(t *testing.T) {
	head := "Content-Type: message/rfc822\n\n"
	p := parse(t, strings.Repeat(head, 40)+"x")
	all := partsOfMessage(p)
	if len(all) != 33 {
		t.Fatalf("%d parts", len(all))
	}
	for n := range 100 {
		path := slices.Repeat([]int{1}, n)
		if is := checkFind(t, p, all, path); is != (n > 0 && n <= 33) {
			t.Errorf("%d times 1: %v", n, is)
		}
	}
	p = parse(t, "Content-Type: multipart/mixed; boundary=a\n\n"+strings.Repeat("--a\n\nx\n", 999))
	all = partsOfMessage(p)
	for n := range 1002 {
		if is := checkFind(t, p, all, []int{n}); is != (n >= 1 && n <= 999) {
			t.Errorf("%d of 999: %v", n, is)
		}
	}
	if part, is := Find(p, slices.Repeat([]int{1}, 100000)); is {
		t.Errorf("100000 times 1: %v", part)
	}
}

// fetched are the bytes that a spec's text tells of a message.
func fetched(t *testing.T, text, asked string) string {
	t.Helper()
	s, err := section.Parse(asked)
	if err != api.OK {
		t.Fatalf("%s: %v", asked, err)
	}
	p := parse(t, text)
	check(t, text, p, s)
	return string(Get([]byte(text), p, s))
}

// P16.2: what specs tell of a message, without a path and with one.
func TestGet(t *testing.T) {
	head := "Subject: all\r\nContent-Type: multipart/mixed; boundary=a\r\n\r\n"
	for _, c := range []struct{ asked, want string }{
		{"[]", letter},
		{"[HEADER]", head},
		{"[TEXT]", letter[len(head):]},
		{"[HEADER.FIELDS (subject)]", "Subject: all\r\n\r\n"},
		{"[HEADER.FIELDS (To)]", "\r\n"},
		{"[HEADER.FIELDS.NOT (subject)]", "Content-Type: multipart/mixed; boundary=a\r\n\r\n"},
		{"[HEADER.FIELDS.NOT (To)]", head},
		{"[1]", "one"},
		{"[1.MIME]", "X-Part: 1\r\n\r\n"},
		{"[1.HEADER]", ""},
		{"[1.TEXT]", ""},
		{"[1.HEADER.FIELDS (X-Part)]", ""},
		{"[1.HEADER.FIELDS.NOT (X-Part)]", ""},
		{"[2]", "Subject: two\r\nTo: b\r\n\r\nin two"},
		{"[2.MIME]", "Content-Type: message/rfc822\r\n\r\n"},
		{"[2.HEADER]", "Subject: two\r\nTo: b\r\n\r\n"},
		{"[2.TEXT]", "in two"},
		{"[2.HEADER.FIELDS (TO X)]", "To: b\r\n\r\n"},
		{"[2.HEADER.FIELDS.NOT (TO X)]", "Subject: two\r\n\r\n"},
		{"[2.1]", "in two"},
		{"[2.1.MIME]", "Subject: two\r\nTo: b\r\n\r\n"},
		{"[2.1.HEADER]", ""},
		{"[3.HEADER]", ""},
		{"[3.TEXT]", ""},
		{"[3.2]", "three two"},
		{"[3.2.MIME]", "\r\n"},
		{"[4.TEXT]", "--c\r\nX-Part: 4.1\r\n\r\nfour one\r\n--c--"},
		{"[4.1]", "four one"},
		{"[4.1.MIME]", "X-Part: 4.1\r\n\r\n"},
		{"[5]", ""},
		{"[5.MIME]", ""},
		{"[1.1]", ""},
		{"[2.2.HEADER.FIELDS (a)]", ""},
		{"[]<0.9>", "Subject: "},
		{"[1]<1.1>", "n"},
		{"[1]<1.9>", "ne"},
		{"[1]<3.1>", ""},
		{"[1]<4.1>", ""},
		{"[2.HEADER.FIELDS (TO)]<4.3>", "b\r\n"},
		{"[2.TEXT]<4294967295.4294967295>", ""},
		{"[2.TEXT]<0.4294967295>", "in two"},
	} {
		if got := fetched(t, letter, c.asked); got != c.want {
			t.Errorf("%s: %q, not %q", c.asked, got, c.want)
		}
	}
}

// P16.2: part 1 of a message that is no Multi is its body, and its header is the message's.
func TestGetItself(t *testing.T) {
	text := "A: b\r\n\r\nx\r\n"
	for _, c := range []struct{ asked, want string }{
		{"[1]", "x\r\n"}, {"[1.MIME]", "A: b\r\n\r\n"}, {"[1.HEADER]", ""}, {"[1.TEXT]", ""}, {"[1.1]", ""}, {"[2]", ""},
	} {
		if got := fetched(t, text, c.asked); got != c.want {
			t.Errorf("%s: %q, not %q", c.asked, got, c.want)
		}
	}
	text = "A: b\nContent-Type: message/rfc822\n\nC: d\n\nx"
	for _, c := range []struct{ asked, want string }{
		{"[HEADER]", "A: b\nContent-Type: message/rfc822\n\n"}, {"[TEXT]", "C: d\n\nx"}, {"[1]", "C: d\n\nx"},
		{"[1.MIME]", "A: b\nContent-Type: message/rfc822\n\n"}, {"[1.HEADER]", "C: d\n\n"}, {"[1.TEXT]", "x"},
		{"[1.HEADER.FIELDS (A C)]", "C: d\n\r\n"}, {"[1.1]", "x"}, {"[1.1.MIME]", "C: d\n\n"}, {"[1.1.TEXT]", ""},
	} {
		if got := fetched(t, text, c.asked); got != c.want {
			t.Errorf("%s: %q, not %q", c.asked, got, c.want)
		}
	}
}

// P16.2, P16.3: specs of all kinds and all paths of messages, whole and cut.
func TestGetAll(t *testing.T) {
	for _, text := range append(messages(), letter) {
		p := parse(t, text)
		paths := [][]int{nil, {6}, {1, 6}, {1, 1, 1, 1, 1, 1}, {math.MaxUint32}}
		for path := range partsOfMessage(p) {
			paths = append(paths, pathOf(path), append(pathOf(path), 1), append(pathOf(path), 7))
		}
		for _, path := range paths {
			for _, s := range specsOf(path) {
				check(t, text, p, s)
				s.Cut = true
				for s.From = range 4 {
					for s.Many = range 4 {
						s.Many++
						check(t, text, p, s)
					}
				}
				n := len(wanted(text, p, s))
				for _, from := range []int{max(n-1, 0), n, n + 1, math.MaxUint32} {
					for _, many := range []int{1, n + 1, math.MaxUint32} {
						s.From, s.Many = from, many
						check(t, text, p, s)
					}
				}
			}
		}
	}
}

// P16.2, P16.3: specs that section refuses tell nothing.
func TestRefused(t *testing.T) {
	p := parse(t, letter)
	for _, s := range []section.Spec{
		{What: section.Mime},
		{What: -1},
		{What: 6},
		{Path: []int{1}, What: 6},
		{Path: []int{0}},
		{Path: []int{-1}},
		{Path: []int{2, 0}},
		{Path: []int{2, 1, -5}},
		{Path: slices.Repeat([]int{1}, 65)},
		{What: section.Fields},
		{What: section.Not},
		{Path: []int{2}, What: section.Not, Names: []string{}},
		{Names: []string{"a"}},
		{What: section.Header, Names: []string{"a"}},
		{What: section.Text, Names: []string{"a"}},
		{Path: []int{1}, What: section.Mime, Names: []string{"a"}},
		{What: section.Fields, Names: []string{"a\n"}},
		{What: section.Not, Names: []string{"\xff"}},
		{What: section.Fields, Names: slices.Repeat([]string{"subject"}, 101)},
		{From: 1},
		{Many: 1},
		{Cut: true},
		{Cut: true, Many: -1},
		{Cut: true, From: -1, Many: 1},
		{Cut: true, From: math.MaxUint32 + 1, Many: 1},
		{Cut: true, Many: math.MaxUint32 + 1},
	} {
		if got := Get([]byte(letter), p, s); len(got) != 0 {
			t.Errorf("%v: %q", s, got)
		}
		if n := Size([]byte(letter), p, s); n != 0 {
			t.Errorf("%v: %d", s, n)
		}
	}
	path := slices.Repeat([]int{1}, 64)
	check(t, letter, p, section.Spec{Path: path})
	check(t, letter, p, section.Spec{What: section.Fields, Names: slices.Repeat([]string{"subject"}, 100)})
}

// P16.2: places that aren't within the bytes count as nothing, each by itself.
func TestPlaces(t *testing.T) {
	text := "a:\n"
	eachRow(4, -1, 4, func(row []int) {
		if len(row) < 4 {
			return
		}
		leaf := tree.Part{Head: span(row[0], row[1]), Body: span(row[2], row[3])}
		message := tree.Part{Kind: tree.Message, Head: span(0, 0), Body: span(0, 3), Kids: []tree.Part{leaf}}
		for _, what := range []int{section.All, section.Header, section.Text} {
			check(t, text, leaf, section.Spec{What: what})
			check(t, text, leaf, section.Spec{What: what, Cut: true, From: 1, Many: 1})
			check(t, text, message, section.Spec{Path: []int{1}, What: what})
		}
		for _, what := range []int{section.Fields, section.Not} {
			check(t, text, leaf, section.Spec{What: what, Names: []string{"A"}})
			check(t, text, message, section.Spec{Path: []int{1}, What: what, Names: []string{"A"}})
		}
		for _, what := range []int{section.All, section.Mime} {
			check(t, text, leaf, section.Spec{Path: []int{1}, What: what})
			check(t, text, message, section.Spec{Path: []int{1, 1}, What: what})
		}
	})
	far := tree.Part{Head: span(math.MinInt, math.MaxInt), Body: span(math.MaxInt, math.MinInt)}
	for _, s := range append(specsOf(nil), specsOf([]int{1})...) {
		check(t, text, far, s)
		check(t, "", far, s)
	}
}

// P16.2: a Message without a kid has a body and a header, but nothing of a message.
func TestGetByHand(t *testing.T) {
	text := "a:\n\nb:\n\nc"
	whole := tree.Part{Kind: tree.Message, Head: span(0, 4), Body: span(4, 9)}
	kid := tree.Part{Head: span(4, 8), Body: span(8, 9)}
	two := tree.Part{Kind: tree.Message, Head: span(0, 4), Body: span(4, 9), Kids: []tree.Part{kid, {Head: span(8, 8), Body: span(8, 9)}}}
	other := tree.Part{Kind: 3, Head: span(0, 4), Body: span(4, 9), Kids: []tree.Part{kid}}
	for _, p := range []tree.Part{whole, two, other} {
		for _, path := range [][]int{nil, {1}, {2}} {
			for _, s := range specsOf(path) {
				check(t, text, p, s)
			}
		}
	}
	s := section.Spec{Path: []int{1}, What: section.Header}
	if got := Get([]byte(text), whole, s); len(got) != 0 {
		t.Errorf("without a kid: %q", got)
	}
	if got := Get([]byte(text), two, s); string(got) != "b:\n\n" {
		t.Errorf("of the first kid: %q", got)
	}
}

// P16.3: what Size tells is of all bytes, whatever is cut.
func TestSize(t *testing.T) {
	p := parse(t, letter)
	for _, c := range []struct {
		s    section.Spec
		want int
	}{
		{section.Spec{}, len(letter)},
		{section.Spec{Cut: true, From: 5, Many: 1}, len(letter)},
		{section.Spec{Cut: true, From: math.MaxUint32, Many: math.MaxUint32}, len(letter)},
		{section.Spec{Path: []int{1}}, 3},
		{section.Spec{Path: []int{1}, Cut: true, From: 1, Many: 1}, 3},
		{section.Spec{Path: []int{1, 1}}, 0},
		{section.Spec{Path: []int{1}, What: section.Header}, 0},
		{section.Spec{What: section.Fields, Names: []string{"subject"}}, 16},
		{section.Spec{What: section.Fields, Names: []string{"x"}}, 2},
		{section.Spec{What: section.Fields, Names: []string{"x"}, From: 1}, 0},
	} {
		if n := Size([]byte(letter), p, c.s); n != c.want {
			t.Errorf("%v: %d, not %d", c.s, n, c.want)
		}
	}
}

// P16.3: pieces of short texts, from all places, and edges of numbers.
func TestCut(t *testing.T) {
	ends := []int{math.MinInt, math.MinInt + 1, math.MaxInt - 1, math.MaxInt}
	for n := range 7 {
		text := "abcdef"[:n]
		for from := -3; from < 12; from++ {
			for many := -3; many < 12; many++ {
				if got := string(Cut([]byte(text), from, many)); got != cutWanted(text, from, many) {
					t.Fatalf("Cut(%q, %d, %d) = %q", text, from, many, got)
				}
			}
			for _, many := range ends {
				if got := string(Cut([]byte(text), from, many)); got != cutWanted(text, from, many) {
					t.Fatalf("Cut(%q, %d, %d) = %q", text, from, many, got)
				}
			}
		}
		for _, from := range ends {
			for _, many := range append([]int{-1, 0, 1, 6}, ends...) {
				if got := Cut([]byte(text), from, many); len(got) != 0 {
					t.Fatalf("Cut(%q, %d, %d) = %q", text, from, many, got)
				}
			}
		}
	}
	if got := Cut(nil, 0, 1); len(got) != 0 {
		t.Errorf("of nothing: %q", got)
	}
}

// P16.4: what is cut, piece by piece, is all.
func TestFollowsPieces(t *testing.T) {
	p := parse(t, letter)
	b := []byte(letter)
	for _, s := range append(append(specsOf(nil), specsOf([]int{2})...), specsOf([]int{3})...) {
		all := Get(b, p, s)
		for _, many := range []int{1, 2, 3, 7, 100, len(letter), math.MaxUint32} {
			var pieces, cut []byte
			s.Cut, s.Many = true, many
			for s.From = 0; s.From < Size(b, p, s); s.From += many {
				pieces = append(pieces, Get(b, p, s)...)
				cut = append(cut, Cut(all, s.From, many)...)
			}
			if !bytes.Equal(pieces, all) || !bytes.Equal(cut, all) {
				t.Errorf("%v: %q and %q, not %q", s, pieces, cut, all)
			}
		}
	}
}

// P16.4: a message's Header and Text are all of it; a part's Mime and All stand in it one behind the other.
func TestFollows(t *testing.T) {
	for _, text := range append(messages(), letter) {
		for at := range len(text) + 1 {
			text := text[:at]
			b, p := []byte(text), parse(t, text)
			whole := append(Get(b, p, section.Spec{What: section.Header}), Get(b, p, section.Spec{What: section.Text})...)
			if string(whole) != text || !bytes.Equal(whole, Get(b, p, section.Spec{})) {
				t.Fatalf("of %q: %q", text, whole)
			}
			for path, part := range partsOfMessage(p) {
				s := section.Spec{Path: pathOf(path), What: section.Mime}
				both := Get(b, p, s)
				s.What = section.All
				both = append(both, Get(b, p, s)...)
				if string(both) != text[part.Head.From:part.Body.To] {
					t.Fatalf("%s of %q: %q", path, text, both)
				}
				if part.Kind != tree.Message {
					continue
				}
				s.What = section.Header
				both = Get(b, p, s)
				s.What = section.Text
				both = append(both, Get(b, p, s)...)
				if string(both) != text[part.Body.From:part.Body.To] {
					t.Fatalf("%s of %q as a message: %q", path, text, both)
				}
			}
		}
	}
}

// P16.1 to P16.3: answers are new memory, and what is handed in stays as it is.
func TestNew(t *testing.T) {
	b, p, again := []byte(letter), parse(t, letter), parse(t, letter)
	for _, s := range append(append(specsOf(nil), specsOf([]int{1})...), specsOf([]int{2})...) {
		for _, cut := range []bool{false, true} {
			if s.Cut = cut; cut {
				s.Many = 1000
			}
			names := slices.Clone(s.Names)
			got := Get(b, p, s)
			clear(got[:cap(got)])
			Size(b, p, s)
			if string(b) != letter || !slices.Equal(s.Names, names) {
				t.Fatalf("%v changes what is handed in", s)
			}
		}
	}
	piece := Cut(b, 1, 5)
	clear(piece[:cap(piece)])
	path := []int{4}
	part, _ := Find(p, path)
	multi := part.Kids[0]
	multi.Cuts[0] = span(-1, -1)
	multi.Kids[0].Kind = 7
	part.Kids[0].Kind = 7
	if string(b) != letter || path[0] != 4 || !reflect.DeepEqual(p, again) {
		t.Errorf("an answer shares memory: %q, %v", b, p)
	}
}

// P16.2, P16.3: long messages.
func TestLong(t *testing.T) {
	body := strings.Repeat("x", 1<<20)
	text := "Subject: a\n\n" + body
	p := parse(t, text)
	if n := Size([]byte(text), p, section.Spec{What: section.Text}); n != len(body) {
		t.Errorf("%d bytes", n)
	}
	if got := Get([]byte(text), p, section.Spec{Path: []int{1}, Cut: true, From: 1<<20 - 2, Many: 5}); string(got) != "xx" {
		t.Errorf("%.60q", got)
	}
	if got := Get([]byte(text), p, section.Spec{}); string(got) != text {
		t.Errorf("%d bytes", len(got))
	}
}
