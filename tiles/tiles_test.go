package tiles

import (
	"math"
	"reflect"
	"slices"
	"strconv"
	"strings"
	"testing"

	"letterbox/api"
	"letterbox/tree"
)

// span are bytes from one on, below another one.
func span(from, to int) api.Span { return api.Span{From: from, To: to} }

// parse is the tree of a text.
func parse(t *testing.T, text string) tree.Part {
	t.Helper()
	p, err := tree.Parse([]byte(text))
	if err != api.OK {
		t.Fatalf("Parse(%.60q): %v", text, err)
	}
	return p
}

// told are tiles, each with its bytes, as the document's names would tell them.
func told(text string, all []Tile) string {
	var line strings.Builder
	for _, tile := range all {
		line.WriteString([]string{"Head", "Text", "Pre", "Cut", "End", "Post"}[tile.Kind])
		line.WriteString("<" + text[tile.At.From:tile.At.To] + ">")
	}
	return line.String()
}

// copied is a tree that shares nothing with a part.
func copied(p tree.Part) tree.Part {
	p.Cuts = slices.Clone(p.Cuts)
	p.Kids = slices.Clone(p.Kids)
	for i, kid := range p.Kids {
		p.Kids[i] = copied(kid)
	}
	return p
}

// leaf is a Leaf of so many bytes of a header, and of a body.
func leaf(at, head, body int) tree.Part {
	return tree.Part{Head: span(at, at+head), Body: span(at+head, at+head+body)}
}

// inMessage is a Message of an empty header, whose kid is a part.
func inMessage(kid tree.Part) tree.Part {
	bytes := span(kid.Head.From, kid.Body.To)
	return tree.Part{Kind: tree.Message, Head: span(bytes.From, bytes.From), Body: bytes, Kids: []tree.Part{kid}}
}

// inMulti is a Multi of an empty header that begins at 0, of parts, each behind a delimiter of one byte.
func inMulti(kids ...tree.Part) tree.Part {
	p := tree.Part{Kind: tree.Multi, Kids: kids}
	at := 0
	for _, kid := range kids {
		p.Cuts = append(p.Cuts, span(at, kid.Head.From))
		at = kid.Body.To
	}
	p.End = span(at, at+1)
	p.Body = span(0, at+2)
	return p
}

// row is a Multi of so many leaves.
func row(n int) tree.Part {
	var kids []tree.Part
	for i := range n {
		kids = append(kids, leaf(2*i+1, 0, 1))
	}
	return inMulti(kids...)
}

// P13.1: kinds have their numbers.
func TestKinds(t *testing.T) {
	if kinds := [...]int{Head, Text, Pre, Cut, End, Post}; kinds != [...]int{0, 1, 2, 3, 4, 5} {
		t.Errorf("%v", kinds)
	}
}

// P13.1: what messages are laid of.
func TestMessages(t *testing.T) {
	mixed := "Content-Type: multipart/mixed; boundary=a\n\n"
	message := "Content-Type: message/rfc822\n\n"
	for _, c := range []struct{ text, want string }{
		{"A: b\n\nx", "Head<A: b\n\n>Text<x>"},
		{"", "Head<>Text<>"},
		{"x", "Head<x>Text<>"},
		{"\nx", "Head<\n>Text<x>"},
		{mixed + "p\n--a\nB: c\n\nx\n--a\n\ny\n--a--\nq",
			"Head<" + mixed + ">Pre<p>Cut<\n--a\n>Head<B: c\n\n>Text<x>Cut<\n--a\n>Head<\n>Text<y>End<\n--a--\n>Post<q>"},
		// What has no bytes is told, too.
		{mixed + "--a\n", "Head<" + mixed + ">Pre<>Cut<--a\n>Head<>Text<>End<>Post<>"},
		{mixed + "--a\n--a\n--a--", "Head<" + mixed + ">Pre<>Cut<--a\n>Head<>Text<>Cut<--a\n>Head<>Text<>End<--a-->Post<>"},
		{mixed + "--a--\n", "Head<" + mixed + ">Text<--a--\n>"},
		{message + "A: b\n\nx", "Head<" + message + ">Head<A: b\n\n>Text<x>"},
		{message, "Head<" + message + ">Head<>Text<>"},
		{message + message + mixed + "--a\n\nx",
			"Head<" + message + ">Head<" + message + ">Head<" + mixed + ">Pre<>Cut<--a\n>Head<\n>Text<x>End<>Post<>"},
		{mixed + "--a\n" + message + "A: b\n\nx\n--a\nContent-Type: multipart/x; boundary=b\n\np\n--b\n\ny\n--b--\nq\n--a--\nr",
			"Head<" + mixed + ">Pre<>Cut<--a\n>Head<" + message + ">Head<A: b\n\n>Text<x>Cut<\n--a\n>Head<Content-Type: multipart/x; boundary=b\n\n>" +
				"Pre<p>Cut<\n--b\n>Head<\n>Text<y>End<\n--b--\n>Post<q>End<\n--a--\n>Post<r>"},
	} {
		if got := told(c.text, Of(parse(t, c.text))); got != c.want {
			t.Errorf("of %q: %q, not %q", c.text, got, c.want)
		}
	}
}

// P13.1: parts that are no message's are told as they stand there.
func TestOf(t *testing.T) {
	head, body, cut, end := span(1, 2), span(20, 30), span(5, 4), span(-7, 9)
	kid := tree.Part{Kind: 0, Head: span(40, 41), Body: span(50, 51)}
	kidTiles := []Tile{{0, span(40, 41)}, {1, span(50, 51)}}
	part := func(kind int, kids, cuts int) tree.Part {
		return tree.Part{
			Kind: kind, Head: head, Body: body, End: end,
			Kids: slices.Repeat([]tree.Part{kid}, kids),
			Cuts: slices.Repeat([]api.Span{cut}, cuts),
		}
	}
	tiles := func(all ...any) []Tile {
		var list []Tile
		for _, one := range all {
			switch x := one.(type) {
			case Tile:
				list = append(list, x)
			case []Tile:
				list = append(list, x...)
			}
		}
		return list
	}
	multi := func(pre int, kids int) []Tile {
		list := []Tile{{0, head}, {2, span(20, pre)}}
		for range kids {
			list = tiles(list, Tile{3, cut}, kidTiles)
		}
		return tiles(list, Tile{4, end}, Tile{5, span(9, 30)})
	}
	text := []Tile{{0, head}, {1, body}}
	for _, c := range []struct {
		p    tree.Part
		want []Tile
	}{
		{tree.Part{}, []Tile{{0, span(0, 0)}, {1, span(0, 0)}}},
		{part(0, 0, 0), text},
		{part(0, 2, 3), text},
		{part(3, 2, 2), text},
		{part(-1, 1, 1), text},
		{part(math.MaxInt, 1, 1), text},
		{part(math.MinInt, 1, 1), text},
		{part(2, 0, 0), []Tile{{0, head}}},
		{part(2, 0, 3), []Tile{{0, head}}},
		{part(2, 1, 0), tiles(Tile{0, head}, kidTiles)},
		{part(2, 3, 2), tiles(Tile{0, head}, kidTiles)},
		// Without delimiters what stands ahead goes up to the end; kids are told as far as there are delimiters, and these likewise.
		{part(1, 0, 0), multi(-7, 0)},
		{part(1, 3, 0), multi(-7, 0)},
		{part(1, 0, 3), multi(5, 0)},
		{part(1, 1, 1), multi(5, 1)},
		{part(1, 2, 2), multi(5, 2)},
		{part(1, 1, 2), multi(5, 1)},
		{part(1, 3, 2), multi(5, 2)},
		{tree.Part{Kind: 1, Cuts: []api.Span{}, Kids: []tree.Part{}}, []Tile{{0, span(0, 0)}, {2, span(0, 0)}, {4, span(0, 0)}, {5, span(0, 0)}}},
		{tree.Part{Kind: 1, Head: span(math.MaxInt, math.MinInt), Body: span(math.MinInt, math.MaxInt), End: span(math.MaxInt, math.MinInt)},
			[]Tile{{0, span(math.MaxInt, math.MinInt)}, {2, span(math.MinInt, math.MaxInt)}, {4, span(math.MaxInt, math.MinInt)}, {5, span(math.MinInt, math.MaxInt)}}},
	} {
		if got := Of(c.p); !slices.Equal(got, c.want) {
			t.Errorf("Of(%v) = %v, not %v", c.p, got, c.want)
		}
		if got := laid(c.p); !slices.Equal(got, c.want) {
			t.Errorf("the form of %v: %v, not %v", c.p, got, c.want)
		}
	}
	// Each kid is told behind its own delimiter, in order.
	several := tree.Part{Kind: 1, Kids: []tree.Part{part(0, 0, 0), part(1, 1, 1), part(2, 1, 0)}, Cuts: []api.Span{span(1, 11), span(2, 12), span(3, 13)}}
	want := tiles(Tile{0, span(0, 0)}, Tile{2, span(0, 1)}, Tile{3, span(1, 11)}, text, Tile{3, span(2, 12)}, multi(5, 1),
		Tile{3, span(3, 13)}, Tile{0, head}, kidTiles, Tile{4, span(0, 0)}, Tile{5, span(0, 0)})
	if got := Of(several); !slices.Equal(got, want) {
		t.Errorf("Of(%v) = %v, not %v", several, got, want)
	}
}

// nest is a part with no bytes that stands so deep in others of a kind.
func nest(kind, n int) tree.Part {
	var p tree.Part
	for range n {
		p = tree.Part{Kind: kind, Kids: []tree.Part{p}}
		if kind == tree.Multi {
			p.Cuts = make([]api.Span, 1)
		}
	}
	return p
}

// P13.1: there are tiles of parts however deep, and of however many.
func TestDeep(t *testing.T) {
	if got := Of(nest(tree.Message, 1<<16)); len(got) != 1<<16+2 || got[1<<16] != (Tile{Kind: Head}) || got[1<<16+1] != (Tile{Kind: Text}) {
		t.Errorf("%d tiles", len(got))
	}
	got := Of(nest(tree.Multi, 1<<16))
	if len(got) != 5<<16+2 || got[3<<16].Kind != Head || got[3<<16+1].Kind != Text || got[3<<16+2].Kind != End || got[5<<16+1].Kind != Post {
		t.Errorf("%d tiles", len(got))
	}
	if got := Of(row(1 << 16)); len(got) != 3<<16+4 || got[3<<16-1] != (Tile{Cut, span(1<<17-2, 1<<17-1)}) {
		t.Errorf("%d tiles", len(got))
	}
}

// P13.1: bytes are from where a header begins to where a body ends, whatever stands between.
func TestBytes(t *testing.T) {
	for _, c := range []struct {
		p    tree.Part
		want api.Span
	}{
		{tree.Part{}, span(0, 0)},
		{leaf(3, 4, 5), span(3, 12)},
		{tree.Part{Kind: 1, Head: span(1, 2), Body: span(3, 4), End: span(5, 6), Kids: []tree.Part{leaf(7, 1, 1)}, Cuts: []api.Span{span(8, 9)}}, span(1, 4)},
		{tree.Part{Kind: -9, Head: span(9, 2), Body: span(3, -4)}, span(9, -4)},
		{tree.Part{Head: span(math.MaxInt, 0), Body: span(0, math.MinInt)}, span(math.MaxInt, math.MinInt)},
	} {
		if got := Bytes(c.p); got != c.want {
			t.Errorf("Bytes(%v) = %v, not %v", c.p, got, c.want)
		}
	}
	text := trees()[6]
	p := parse(t, text)
	if Bytes(p) != span(0, len(text)) || text[Bytes(p.Kids[1]).From:Bytes(p.Kids[1]).To] != "\r\ny" {
		t.Errorf("Bytes of %v", p)
	}
}

// check holds Of, Check and what follows against their forms.
func check(t *testing.T, p tree.Part, n int) api.Errno {
	t.Helper()
	all := Of(p)
	if want := laid(p); !slices.Equal(all, want) {
		t.Fatalf("Of(%v) = %v, not %v", p, all, want)
	}
	got := Check(p, n)
	if want := verdict(p, n); got != want {
		t.Fatalf("Check(%v, %d) = %v, not %v", p, n, got, want)
	}
	if got == api.OK {
		checkLaid(t, p, n)
	}
	return got
}

// checkLaid tells whether a part's tiles, one behind the other, are so many bytes.
func checkLaid(t *testing.T, p tree.Part, n int) {
	t.Helper()
	at := 0
	for _, tile := range Of(p) {
		if tile.At.From != at || tile.At.To < at {
			t.Fatalf("of %v: %v doesn't stand at %d", p, tile, at)
		}
		at = tile.At.To
	}
	if at != n || Bytes(p) != span(0, n) {
		t.Fatalf("of %v: %d bytes, not %d", p, at, n)
	}
}

// P13.2: each condition by itself, on a tree that is right but for it.
func TestCheck(t *testing.T) {
	base := parse(t, trees()[13])
	n := len(trees()[13])
	if len(base.Kids) != 2 || base.Kids[0].Kind != 1 || base.Kids[0].Kids[1].Kind != 2 || base.Kids[1].Kind != 2 || Check(base, n) != api.OK {
		t.Fatalf("%v", base)
	}
	for name, change := range map[string]func(p *tree.Part){
		"kind below":              func(p *tree.Part) { p.Kids[1].Kids[0].Kind = -1 },
		"kind above":              func(p *tree.Part) { p.Kids[1].Kids[0].Kind = 3 },
		"leaf with a kid":         func(p *tree.Part) { p.Kids[1].Kids[0].Kids = make([]tree.Part, 1) },
		"leaf with a cut":         func(p *tree.Part) { p.Kids[1].Kids[0].Cuts = make([]api.Span, 1) },
		"leaf with an end":        func(p *tree.Part) { p.Kids[1].Kids[0].End = span(0, 1) },
		"leaf with an empty end":  func(p *tree.Part) { p.Kids[1].Kids[0].End = span(1, 1) },
		"leaf with a broken end":  func(p *tree.Part) { p.Kids[1].Kids[0].End = span(1, 0) },
		"multi with more kids":    func(p *tree.Part) { p.Kids = append(p.Kids, tree.Part{}) },
		"multi with more cuts":    func(p *tree.Part) { p.Cuts = append(p.Cuts, api.Span{}) },
		"multi without kids":      func(p *tree.Part) { p.Kids, p.Cuts, p.End = nil, nil, span(p.Body.To, p.Body.To) },
		"message without kids":    func(p *tree.Part) { p.Kids[1].Kids = nil },
		"message with kids":       func(p *tree.Part) { p.Kids[1].Kids = append(p.Kids[1].Kids, p.Kids[1].Kids[0]) },
		"message with a cut":      func(p *tree.Part) { p.Kids[1].Cuts = make([]api.Span, 1) },
		"message with an end":     func(p *tree.Part) { p.Kids[1].End = span(0, 1) },
		"message's kid too short": func(p *tree.Part) { p.Kids[1].Body.To++ },
		"message's kid too far":   func(p *tree.Part) { p.Kids[1].Kids[0].Head.From++ },
		"message's body too far":  func(p *tree.Part) { p.Kids[1].Head.To++; p.Kids[1].Body.From++ },
		"gap behind a head":       func(p *tree.Part) { p.Kids[0].Head.To-- },
		"overlap behind a head":   func(p *tree.Part) { p.Kids[0].Head.To++ },
		"gap behind a cut":        func(p *tree.Part) { p.Cuts[1].To-- },
		"overlap behind a cut":    func(p *tree.Part) { p.Cuts[1].To++ },
		"gap ahead of a cut":      func(p *tree.Part) { p.Cuts[1].From++ },
		"overlap ahead of a cut":  func(p *tree.Part) { p.Cuts[1].From-- },
		"gap ahead of the end":    func(p *tree.Part) { p.End.From++ },
		"overlap ahead of it":     func(p *tree.Part) { p.End.From-- },
		"end of less than none":   func(p *tree.Part) { p.End.To = p.End.From - 1 },
		"post of less than none":  func(p *tree.Part) { p.End.To = p.Body.To + 1 },
		"pre of less than none":   func(p *tree.Part) { p.Cuts[0].From = p.Body.From - 1 },
		"head not at 0":           func(p *tree.Part) { p.Head.From = 1 },
		"head ahead of 0":         func(p *tree.Part) { p.Head.From = -1 },
		"body too short":          func(p *tree.Part) { p.Body.To-- },
		"body too long":           func(p *tree.Part) { p.Body.To++ },
		"kids the wrong way":      func(p *tree.Part) { slices.Reverse(p.Kids) },
		"cuts the wrong way":      func(p *tree.Part) { slices.Reverse(p.Cuts) },
	} {
		p := copied(base)
		change(&p)
		if got := check(t, p, n); got != api.ErrForm {
			t.Errorf("%s: %v", name, got)
		}
	}
	for name, change := range map[string]func(p *tree.Part){
		"nothing":          func(p *tree.Part) {},
		"a longer pre":     func(p *tree.Part) { p.Cuts[0].From++ },
		"a longer head":    func(p *tree.Part) { p.Head.To--; p.Body.From-- },
		"a longer post":    func(p *tree.Part) { p.End.To-- },
		"a longer body":    func(p *tree.Part) { p.Kids[1].Kids[0].Head.To--; p.Kids[1].Kids[0].Body.From-- },
		"empty lists":      func(p *tree.Part) { p.Kids[1].Cuts = []api.Span{}; p.Kids[1].Kids[0].Kids = []tree.Part{} },
		"an empty end":     func(p *tree.Part) { p.End.To = p.End.From },
		"a leaf of all":    func(p *tree.Part) { *p = leaf(0, 0, n) },
		"a leaf of a head": func(p *tree.Part) { *p = leaf(0, n, 0) },
	} {
		p := copied(base)
		change(&p)
		if got := check(t, p, n); got != api.OK {
			t.Errorf("%s: %v", name, got)
		}
	}
	for _, other := range []int{0, 1, -1, -n, n - 1, n + 1, 2 * n, math.MaxInt, math.MinInt} {
		if got := Check(base, other); got != api.ErrForm {
			t.Errorf("of %d bytes: %v", other, got)
		}
	}
}

// P13.2: a body that ends ahead of where it begins is none, though all tiles may be there.
func TestBroken(t *testing.T) {
	for _, c := range []struct {
		p tree.Part
		n int
	}{
		{tree.Part{Head: span(0, 2), Body: span(2, 1)}, 1},
		{tree.Part{Head: span(0, -1), Body: span(-1, 0)}, 0},
		{tree.Part{Head: span(0, 0), Body: span(0, -1)}, -1},
		{tree.Part{Head: span(-2, -2), Body: span(-2, -1)}, -1},
		{tree.Part{Head: span(1, 1), Body: span(1, 2)}, 2},
		{tree.Part{Head: span(0, 1), Body: span(2, 3)}, 3},
		// Its kid stands as it does, but for a header that goes back.
		{tree.Part{Kind: 2, Head: span(0, 3), Body: span(3, 2), Kids: []tree.Part{{Head: span(3, 2), Body: span(2, 2)}}}, 2},
		{tree.Part{Kind: 1, Head: span(0, 1), Body: span(1, 0), Kids: []tree.Part{leaf(1, 0, 0)}, Cuts: []api.Span{span(1, 1)}, End: span(1, 1)}, 0},
		{tree.Part{Head: span(0, math.MaxInt), Body: span(math.MaxInt, math.MinInt)}, math.MinInt},
	} {
		if got := check(t, c.p, c.n); got != api.ErrForm {
			t.Errorf("Check(%v, %d) = %v", c.p, c.n, got)
		}
	}
	for _, n := range []int{0, 1, 1 << 40, math.MaxInt} {
		for _, p := range []tree.Part{leaf(0, 0, n), leaf(0, n, 0), inMessage(leaf(0, n, 0))} {
			if got := check(t, p, n); got != api.OK {
				t.Errorf("Check(%v, %d) = %v", p, n, got)
			}
		}
	}
}

// P13.2: at most MaxParts parts, and MaxDepth levels; what is more is told ahead of all else.
func TestBig(t *testing.T) {
	size := func(p tree.Part) int { return p.Body.To }
	for _, c := range []struct {
		p    tree.Part
		want api.Errno
	}{
		{row(998), api.OK},
		{row(999), api.OK},
		{row(1000), api.ErrBig},
		{row(5000), api.ErrBig},
		{inMessage(row(998)), api.OK},
		{inMessage(row(999)), api.ErrBig},
		{nest(tree.Message, 31), api.OK},
		{nest(tree.Message, 32), api.OK},
		{nest(tree.Message, 33), api.ErrBig},
		{nest(tree.Multi, 32), api.OK},
		{nest(tree.Multi, 33), api.ErrBig},
		{nest(tree.Message, 1<<16), api.ErrBig},
		{inMulti(leaf(1, 0, 1), row(2)), api.ErrForm},
		// Parts count wherever they stand, whatever they are.
		{tree.Part{Kids: make([]tree.Part, 999)}, api.ErrForm},
		{tree.Part{Kids: make([]tree.Part, 1000)}, api.ErrBig},
		{tree.Part{Kind: 9, Kids: make([]tree.Part, 1000)}, api.ErrBig},
		{tree.Part{Kind: 2, Kids: make([]tree.Part, 1000)}, api.ErrBig},
		{tree.Part{Kind: 1, Cuts: make([]api.Span, 5000)}, api.ErrForm},
		{tree.Part{Cuts: make([]api.Span, 5000)}, api.ErrForm},
		{nest(tree.Leaf, 32), api.ErrForm},
		{nest(tree.Leaf, 33), api.ErrBig},
		{nest(7, 33), api.ErrBig},
		{tree.Part{Kind: 1, Kids: []tree.Part{{}, nest(tree.Message, 31)}, Cuts: make([]api.Span, 2)}, api.OK},
		{tree.Part{Kind: 1, Kids: []tree.Part{{}, nest(tree.Message, 32)}, Cuts: make([]api.Span, 2)}, api.ErrBig},
		{tree.Part{Kind: 1, Kids: slices.Repeat([]tree.Part{nest(tree.Multi, 2)}, 333), Cuts: make([]api.Span, 333)}, api.OK},
		{tree.Part{Kind: 1, Kids: append(slices.Repeat([]tree.Part{nest(tree.Multi, 2)}, 333), tree.Part{}), Cuts: make([]api.Span, 334)}, api.ErrBig},
	} {
		if got := check(t, c.p, size(c.p)); got != c.want {
			t.Errorf("of %d parts, %d deep: %v, not %v", tree.Count(c.p), tree.Deep(c.p), got, c.want)
		}
		want := api.ErrForm
		if c.want == api.ErrBig {
			want = api.ErrBig
		}
		if got := Check(c.p, size(c.p)+1); got != want {
			t.Errorf("of %d parts, %d deep, and a byte more: %v, not %v", tree.Count(c.p), tree.Deep(c.p), got, want)
		}
	}
}

// P13.2: a part that stands within itself is too deep, or of too many parts.
func TestWithinItself(t *testing.T) {
	for kind := -1; kind <= 3; kind++ {
		for n := 1; n <= 3; n++ {
			kids := make([]tree.Part, n)
			p := tree.Part{Kind: kind, Kids: kids, Cuts: make([]api.Span, n)}
			for i := range kids {
				kids[i] = p
			}
			if got := Check(p, 0); got != api.ErrBig {
				t.Errorf("%d kids of kind %d: %v", n, kind, got)
			}
		}
	}
	// So many parts that nobody could count them, each list of them written once.
	var p tree.Part
	for range 100 {
		p = tree.Part{Kind: tree.Multi, Kids: []tree.Part{p, p}, Cuts: make([]api.Span, 2)}
	}
	if got := Check(p, 0); got != api.ErrBig {
		t.Errorf("%v", got)
	}
}

// eachRow tells all rows of so many numbers from one on, below another one.
func eachRow(row []int, from, to int, tell func()) { eachRowAt(row, 0, from, to, tell) }

// eachRowAt tells all rows that differ from a place on.
func eachRowAt(row []int, at, from, to int, tell func()) {
	if at == len(row) {
		tell()
		return
	}
	for row[at] = from; row[at] < to; row[at]++ {
		eachRowAt(row, at+1, from, to, tell)
	}
}

// P13.1 to P13.3: all small places of parts of few.
func TestSmall(t *testing.T) {
	right := 0
	tell := func(p tree.Part, n int) {
		if check(t, p, n) == api.OK {
			right++
		}
	}
	r := make([]int, 5)
	eachRow(r, -1, 4, func() {
		for kind := -1; kind < 4; kind++ {
			tell(tree.Part{Kind: kind, Head: span(r[0], r[1]), Body: span(r[2], r[3])}, r[4])
		}
	})
	r = make([]int, 9)
	eachRow(r, 0, 3, func() {
		kid := tree.Part{Head: span(r[4], r[5]), Body: span(r[6], r[7])}
		tell(tree.Part{Kind: tree.Message, Head: span(r[0], r[1]), Body: span(r[2], r[3]), Kids: []tree.Part{kid}}, r[8])
		tell(tree.Part{Kind: tree.Multi, Head: span(0, r[0]), Body: span(r[1], r[8]), Kids: []tree.Part{{Head: span(r[3], r[4]), Body: span(r[4], r[5])}},
			Cuts: []api.Span{span(r[2], r[3])}, End: span(r[6], r[7])}, r[8])
	})
	r = make([]int, 13)
	eachRow(r, 0, 2, func() {
		tell(tree.Part{Kind: tree.Multi, Head: span(r[0], r[1]), Body: span(r[2], r[3]), Kids: []tree.Part{{Head: span(r[4], r[5]), Body: span(r[6], r[7])}},
			Cuts: []api.Span{span(r[8], r[9])}, End: span(r[10], r[11])}, r[12])
	})
	if right < 50 {
		t.Errorf("%d are right", right)
	}
}

// eachPart tells a part, and all below it, as they may be changed.
func eachPart(p *tree.Part, tell func(p *tree.Part)) {
	tell(p)
	for i := range p.Kids {
		eachPart(&p.Kids[i], tell)
	}
}

// numbersOf are the numbers of a part, that may be changed.
func numbersOf(p *tree.Part) []*int {
	all := []*int{&p.Kind, &p.Head.From, &p.Head.To, &p.Body.From, &p.Body.To, &p.End.From, &p.End.To}
	for i := range p.Cuts {
		all = append(all, &p.Cuts[i].From, &p.Cuts[i].To)
	}
	return all
}

// P13.2: trees of messages, but for a number, or two.
func TestNumbers(t *testing.T) {
	right, wrong := 0, 0
	for _, text := range trees() {
		p := copied(parse(t, text))
		count := func() {
			if check(t, p, len(text)) == api.OK {
				right++
			} else {
				wrong++
			}
		}
		var all []*int
		eachPart(&p, func(p *tree.Part) { all = append(all, numbersOf(p)...) })
		for i, one := range all {
			for _, by := range []int{-2, -1, 1, 2, len(text)} {
				*one += by
				count()
				// What moves with it may be right again.
				for _, other := range all[i+1 : min(i+9, len(all))] {
					*other += by
					count()
					*other -= by
				}
				*one -= by
			}
		}
		if got := check(t, p, len(text)); got != api.OK {
			t.Fatalf("of %q: %v", text, got)
		}
	}
	if right < 100 || wrong < 1000 {
		t.Errorf("%d are right, %d aren't", right, wrong)
	}
}

// P13.2: trees of messages, but for the lists of a part.
func TestLists(t *testing.T) {
	for _, text := range trees() {
		p := copied(parse(t, text))
		eachPart(&p, func(q *tree.Part) {
			was := *q
			for _, kids := range [][]tree.Part{nil, {}, {{}}, was.Kids[:len(was.Kids)/2], append(slices.Clone(was.Kids), tree.Part{}), was.Kids} {
				for _, cuts := range [][]api.Span{nil, {}, {{}}, was.Cuts[:len(was.Cuts)/2], append(slices.Clone(was.Cuts), was.End), was.Cuts} {
					for kind := -1; kind <= 3; kind++ {
						q.Kids, q.Cuts, q.Kind = kids, cuts, kind
						check(t, p, len(text))
						q.End = api.Span{}
						check(t, p, len(text))
						q.End = was.End
					}
				}
			}
			*q = was
		})
		if got := Check(p, len(text)); got != api.OK {
			t.Fatalf("of %q: %v", text, got)
		}
	}
}

// whole holds a message against its tiles: they are it, and Check takes them.
func whole(t *testing.T, text string) {
	t.Helper()
	p := parse(t, text)
	if got := check(t, p, len(text)); got != api.OK {
		t.Fatalf("of %q: %v", text, got)
	}
	var all strings.Builder
	for _, tile := range Of(p) {
		all.WriteString(text[tile.At.From:tile.At.To])
	}
	if all.String() != text {
		t.Fatalf("of %q: tiles are %q", text, all.String())
	}
}

// P13.3: messages' tiles, one behind the other, are the message.
func TestFollows(t *testing.T) {
	for _, text := range trees() {
		for at := range len(text) + 1 {
			whole(t, text[:at])
			whole(t, text[at:])
			whole(t, text[:at]+"\n--a--\n"+text[at:])
			whole(t, text[:at]+"\n--b\n"+text[at:])
		}
	}
	pieces := []string{
		"Content-Type: multipart/digest; boundary=a\n\n", "Content-Type: multipart/mixed; boundary=b\r\n\r\n",
		"Content-Type: message/rfc822\n\n", "\n", "\r\n", "x\n", "--a\n", "--b\r\n", "--b \n", "--b--\n", "--a--\n", "\nx\r\n--b\n",
	}
	state := uint32(1)
	most := 0
	for n := range 3000 {
		text := pieces[n%3]
		for range n % 60 {
			state = state*1664525 + 1013904223
			text += pieces[state>>16%uint32(len(pieces))]
		}
		whole(t, text)
		most = max(most, len(Of(parse(t, text))))
	}
	if most < 30 {
		t.Errorf("%d tiles at most", most)
	}
}

// P13.3: messages at the edges of what may be.
func TestEdges(t *testing.T) {
	for _, n := range []int{31, 32, 33, 99} {
		whole(t, strings.Repeat("Content-Type: message/rfc822\n\n", n)+"\nx")
		var text strings.Builder
		for i := range n {
			boundary := "b" + strconv.Itoa(i)
			text.WriteString("Content-Type: multipart/x; boundary=" + boundary + "\n\n--" + boundary + "\n")
		}
		whole(t, text.String()+"\nx")
	}
	for _, n := range []int{998, 999, 1000} {
		whole(t, "Content-Type: multipart/x; boundary=a\n\n"+strings.Repeat("--a\n\nx\n", n)+"--a--")
	}
}

// P13.1, P13.2: a part stays as it is, and tiles are new memory.
func TestNew(t *testing.T) {
	text := trees()[13]
	p, again := parse(t, text), parse(t, text)
	first, second := Of(p), Of(p)
	want := slices.Clone(first)
	clear(first[:cap(first)])
	Check(p, len(text))
	Bytes(p)
	if !slices.Equal(second, want) || !slices.Equal(Of(p), want) || !reflect.DeepEqual(p, again) {
		t.Errorf("%v, of %v", second, p)
	}
}
