package record

import (
	"bytes"
	"errors"
	"math"
	"reflect"
	"slices"
	"strings"
	"testing"

	"letterbox/api"
	"letterbox/tree"
)

// parse is the tree of a text.
func parse(t *testing.T, text string) tree.Part {
	t.Helper()
	p, err := tree.Parse([]byte(text))
	if err != api.OK {
		t.Fatalf("Parse(%.60q): %v", text, err)
	}
	return p
}

// put is the record of a message's tree, which there should be.
func put(t *testing.T, b []byte, p tree.Part) []byte {
	t.Helper()
	rec, err := Put(b, p)
	if err != api.OK {
		t.Fatalf("Put(%.60q, %v): %v", b, p, err)
	}
	if want := recordOf(b, p); !bytes.Equal(rec, want) {
		t.Fatalf("Put(%.60q, %v) = %v, not %v", b, p, rec, want)
	}
	return rec
}

// check holds Get and Size of a record against their forms.
func check(t *testing.T, b, rec []byte) api.Errno {
	t.Helper()
	got, err := Get(b, rec)
	want, wantErr := verdict(b, rec)
	if err != wantErr || !reflect.DeepEqual(got, want) {
		t.Fatalf("Get(%.60q, %v) = %v, %v, not %v, %v", b, rec, got, err, want, wantErr)
	}
	n, is := Size(rec)
	if wantN, wantIs := sizeOf(rec); n != wantN || is != wantIs {
		t.Fatalf("Size(%v) = %d, %v, not %d, %v", rec, n, is, wantN, wantIs)
	}
	if err == api.OK {
		if n != len(b) || !is {
			t.Fatalf("Size(%v) = %d, %v", rec, n, is)
		}
		if again := put(t, b, got); !bytes.Equal(again, rec) {
			t.Fatalf("of %.60q: %v is got, %v is put", b, rec, again)
		}
	}
	return err
}

// nest is a part with no bytes that stands so deep in others of a kind.
func nest(kind, n int) tree.Part {
	var p tree.Part
	for range n {
		p = tree.Part{Kind: kind, Kids: []tree.Part{p}}
		if kind == tree.Multi {
			p.Cuts = make([]api.Span, 1)
		}
	}
	return p
}

// flat is a Multi of so many parts with no bytes.
func flat(n int) tree.Part {
	return tree.Part{Kind: tree.Multi, Kids: make([]tree.Part, n), Cuts: make([]api.Span, n)}
}

// P14.1: records, byte by byte.
func TestPut(t *testing.T) {
	if Version != 1 {
		t.Errorf("version %d", Version)
	}
	multi := "Content-Type: multipart/mixed; boundary=a\n\np\n--a\n\nx"
	message := "Content-Type: message/rfc822\n\nA: b\n\nx"
	for _, c := range []struct {
		text   string
		length []byte
		tree   []byte
	}{
		{"", []byte{0}, []byte{0, 0, 0}},
		{"x", []byte{1}, []byte{0, 1, 0}},
		{"A: b\n\nxyz", []byte{9}, []byte{0, 6, 3}},
		{"\n" + strings.Repeat("x", 300), []byte{0xAD, 2}, []byte{0, 1, 0xAC, 2}},
		{message, []byte{37}, []byte{2, 30, 7, 0, 6, 1}},
		// Ahead of the one kid stand p, and a delimiter of five bytes. Without a close one there is no end.
		{multi, []byte{51}, []byte{1, 43, 8, 1, 1, 5, 0, 1, 1, 0, 0}},
		// Nothing stands between the one kid and the delimiter ahead of the other, nor ahead of the end; what follows that is what is left.
		{multi + "\n--a\nB: c\n\nyz\n--a--\nqqq", []byte{74}, []byte{1, 43, 31, 2, 1, 5, 0, 1, 1, 0, 5, 0, 6, 2, 0, 7}},
		{multi + "\n--a\n" + message, []byte{93}, []byte{1, 43, 50, 2, 1, 5, 0, 1, 1, 0, 5, 2, 30, 7, 0, 6, 1, 0, 0}},
	} {
		b := []byte(c.text)
		rec := put(t, b, parse(t, c.text))
		want := slices.Concat([]byte{76, 66, 1}, c.length, headOf(b)[3+len(c.length):], c.tree)
		if want = summed(want); !bytes.Equal(rec, want) {
			t.Errorf("of %.60q: %v, not %v", c.text, rec, want)
		}
		if err := check(t, b, rec); err != api.OK {
			t.Errorf("of %.60q: %v", c.text, err)
		}
	}
	if rec := put(t, nil, tree.Part{}); !bytes.HasPrefix(rec, []byte{76, 66, 1, 0, 0, 0, 0, 0, 0, 0, 0}) || len(rec) != 15 {
		t.Errorf("of no bytes: %v", rec)
	}
}

// P14.1: numbers of each length.
func TestPutNumbers(t *testing.T) {
	for _, n := range []int{0, 1, 2, 126, 127, 128, 129, 255, 256, 16383, 16384, 16385, 1<<21 - 1, 1 << 21, 1<<21 + 1} {
		b := make([]byte, n)
		for _, p := range []tree.Part{{Body: span(0, n)}, {Head: span(0, n), Body: span(n, n)}, {Head: span(0, n/2), Body: span(n/2, n)}} {
			if err := check(t, b, put(t, b, p)); err != api.OK {
				t.Errorf("of %d bytes: %v", n, err)
			}
		}
		p := tree.Part{Kind: 1, Body: span(0, n), Kids: []tree.Part{{Head: span(n, n), Body: span(n, n)}}, Cuts: []api.Span{span(n/3, n)}, End: span(n, n)}
		if err := check(t, b, put(t, b, p)); err != api.OK {
			t.Errorf("of %d bytes: %v", n, err)
		}
	}
	rec := put(t, make([]byte, 16384), tree.Part{Body: span(0, 16384)})
	if !bytes.HasPrefix(rec, []byte{76, 66, 1, 0x80, 0x80, 1}) || !bytes.HasSuffix(rec[:len(rec)-4], []byte{0, 0, 0x80, 0x80, 1}) {
		t.Errorf("%v", rec)
	}
}

// P14.1: trees that may not be those of so many bytes have no record.
func TestPutWrong(t *testing.T) {
	wrong := func(b []byte, p tree.Part, want api.Errno) {
		t.Helper()
		if rec, err := Put(b, p); err != want || len(rec) != 0 {
			t.Errorf("Put(%.60q, %v) = %v, %v, not %v", b, p, rec, err, want)
		}
	}
	for _, text := range trees() {
		p := parse(t, text)
		wrong([]byte(text+"x"), p, api.ErrForm)
		wrong([]byte("x"+text), p, api.ErrForm)
		if len(text) > 0 {
			wrong([]byte(text[1:]), p, api.ErrForm)
			wrong(nil, p, api.ErrForm)
		}
	}
	wrong(nil, tree.Part{Kind: 3}, api.ErrForm)
	wrong(nil, tree.Part{Kind: -1}, api.ErrForm)
	wrong(nil, tree.Part{Kind: 1}, api.ErrForm)
	wrong(nil, tree.Part{Kind: 2}, api.ErrForm)
	wrong(nil, tree.Part{Kind: 1, Kids: make([]tree.Part, 1)}, api.ErrForm)
	wrong(nil, tree.Part{Kind: 1, Kids: make([]tree.Part, 1), Cuts: make([]api.Span, 2)}, api.ErrForm)
	wrong(nil, tree.Part{Kids: make([]tree.Part, 1)}, api.ErrForm)
	wrong(nil, tree.Part{Head: span(0, -1), Body: span(-1, 0)}, api.ErrForm)
	wrong([]byte("xy"), tree.Part{Head: span(0, 1), Body: span(1, math.MinInt)}, api.ErrForm)
	for _, kind := range []int{1, 2} {
		if err := check(t, nil, put(t, nil, nest(kind, 32))); err != api.OK {
			t.Errorf("32 deep: %v", err)
		}
		wrong(nil, nest(kind, 33), api.ErrBig)
		wrong([]byte("x"), nest(kind, 33), api.ErrBig)
	}
	if err := check(t, nil, put(t, nil, flat(999))); err != api.OK {
		t.Errorf("1000 parts: %v", err)
	}
	wrong(nil, flat(1000), api.ErrBig)
	kids := make([]tree.Part, 1)
	within := tree.Part{Kind: tree.Message, Kids: kids}
	kids[0] = within
	wrong(nil, within, api.ErrBig)
}

// treeRecord is a record of no bytes that goes on with some as they are.
func treeRecord(tail ...byte) []byte { return summed(headOf(nil), tail) }

// P14.2: what isn't a record at all.
func TestGetOther(t *testing.T) {
	x := []byte("x")
	good := put(t, x, parse(t, "x"))
	for _, c := range []struct {
		rec  []byte
		want api.Errno
	}{
		{nil, api.ErrShort},
		{[]byte{}, api.ErrShort},
		{[]byte("LB\x01"), api.ErrShort},
		{[]byte{0, 0, 0}, api.ErrShort},
		{[]byte("LB\x01\x00"), api.ErrSum},
		{[]byte{0, 0, 0, 1}, api.ErrSum},
		{[]byte{0, 0, 0, 0}, api.ErrForm},
		{[]byte{0, 0, 0, 0, 0}, api.ErrSum},
		{good, api.OK},
		{good[:len(good)-1], api.ErrSum},
		{good[1:], api.ErrSum},
		{append(slices.Clone(good), 0), api.ErrSum},
		{append(good[:len(good)-4:len(good)-4], 0, 0, 0, 0), api.ErrSum},
		// A sum whose bytes stand the other way round.
		{append(good[:len(good)-4:len(good)-4], good[len(good)-1], good[len(good)-2], good[len(good)-3], good[len(good)-4]), api.ErrSum},
		// What has another sum isn't asked how it begins.
		{[]byte("no record"), api.ErrSum},
		{summed([]byte("no record")), api.ErrForm},
		{summed([]byte("L")), api.ErrForm},
		{summed([]byte("LB")), api.ErrForm},
		{summed([]byte("LB\x00\x01")), api.ErrForm},
		{summed([]byte("LB\x02"), good[3:len(good)-4]), api.ErrForm},
		{summed([]byte("LB\x81"), good[3:len(good)-4]), api.ErrForm},
		{summed([]byte("LB\x81\x00"), good[3:len(good)-4]), api.ErrForm},
		{summed([]byte("LB1"), good[3:len(good)-4]), api.ErrForm},
		{summed([]byte("lb\x01"), good[3:len(good)-4]), api.ErrForm},
		{summed([]byte("BL\x01"), good[3:len(good)-4]), api.ErrForm},
		{summed([]byte("\x00LB\x01"), good[3:len(good)-4]), api.ErrForm},
		{summed([]byte("LB\x01")), api.ErrShort},
		{summed(good), api.ErrLeft},
	} {
		if got := check(t, x, c.rec); got != c.want {
			t.Errorf("Get(x, %v): %v, not %v", c.rec, got, c.want)
		}
	}
}

// P14.2: numbers that are short, or not written so, or too great; wherever one is taken.
func TestGetNumbers(t *testing.T) {
	row := func(n int, c byte) []byte { return bytes.Repeat([]byte{c}, n) }
	cat := slices.Concat[[]byte]
	for _, c := range []struct {
		number []byte
		want   api.Errno
	}{
		{nil, api.ErrShort},
		{row(1, 0x80), api.ErrShort},
		{row(1, 0xFF), api.ErrShort},
		{row(5, 0x80), api.ErrShort},
		{row(6, 0x80), api.ErrShort},
		{row(6, 0xFF), api.ErrShort},
		// Its seventh byte tells it, whatever that is, and whatever follows.
		{row(7, 0x80), api.ErrForm},
		{row(7, 0xFF), api.ErrForm},
		{row(20, 0x80), api.ErrForm},
		{cat(row(6, 0x80), row(1, 0)), api.ErrForm},
		{cat(row(6, 0x80), row(1, 1)), api.ErrForm},
		{cat(row(9, 0x80), row(1, 1)), api.ErrForm},
		{cat(row(10, 0xFF), row(1, 0x7F)), api.ErrForm},
		{[]byte{0x80, 0}, api.ErrForm},
		{[]byte{0xFF, 0}, api.ErrForm},
		{[]byte{0x81, 0x80, 0}, api.ErrForm},
		{cat(row(5, 0x80), row(1, 0)), api.ErrForm},
		{numbered(1 << 40), api.ErrForm},
		{numbered(1<<40 + 1), api.ErrForm},
		{numbered(1 << 41), api.ErrForm},
		{numbered(1<<42 - 1), api.ErrForm},
		{numbered(1 << 42), api.ErrForm},
		{numbered(1<<63 - 1), api.ErrForm},
		{numbered(math.MaxUint64), api.ErrForm},
	} {
		for name, ahead := range map[string][]byte{
			"length": []byte("LB\x01"), "kind": headOf(nil), "head": cat(headOf(nil), []byte{0}), "body": cat(headOf(nil), []byte{0, 0}),
			"kids": cat(headOf(nil), []byte{1, 0, 0}), "ahead of a cut": cat(headOf(nil), []byte{1, 0, 0, 1}), "cut": cat(headOf(nil), []byte{1, 0, 0, 1, 0}),
			"kid's kind": cat(headOf(nil), []byte{1, 0, 0, 1, 0, 0}), "ahead of the end": cat(headOf(nil), []byte{1, 0, 0, 0}),
			"end": cat(headOf(nil), []byte{1, 0, 0, 0, 0}), "message's kid's body": cat(headOf(nil), []byte{2, 0, 0, 0, 0}),
		} {
			if got := check(t, nil, summed(ahead, c.number)); got != c.want {
				t.Errorf("%s %v: %v, not %v", name, c.number, got, c.want)
			}
			if c.want == api.ErrForm {
				if got := check(t, nil, summed(ahead, c.number, make([]byte, 50))); got != c.want {
					t.Errorf("%s %v, and more: %v, not %v", name, c.number, got, c.want)
				}
			}
		}
	}
	// The greatest ones are taken, and then they are too great for this message.
	most := numbered(1<<40 - 1)
	for _, tail := range [][]byte{cat([]byte{0}, most, []byte{0}), cat([]byte{0, 0}, most), cat([]byte{0}, most, most), cat([]byte{2, 0, 0, 0}, most, most)} {
		if got := check(t, nil, treeRecord(tail...)); got != api.ErrForm {
			t.Errorf("%v: %v", tail, got)
		}
		if got := check(t, nil, treeRecord(append(tail, 0)...)); got != api.ErrLeft {
			t.Errorf("%v, and more: %v", tail, got)
		}
	}
	if got := check(t, nil, summed([]byte("LB\x01"), most)); got != api.ErrBroken {
		t.Errorf("a greatest length: %v", got)
	}
}

// P14.2: records of other messages, told as soon as they can be.
func TestGetBroken(t *testing.T) {
	b := []byte("abc")
	rec := put(t, b, parse(t, "abc"))
	sum := headOf(b)[4:]
	for _, c := range []struct {
		b    []byte
		rec  []byte
		want api.Errno
	}{
		{[]byte("abd"), rec, api.ErrBroken},
		{[]byte("ab"), rec, api.ErrBroken},
		{[]byte("abcd"), rec, api.ErrBroken},
		{nil, rec, api.ErrBroken},
		{b, summed([]byte("LB\x01\x02"), sum, []byte{0, 3, 0}), api.ErrBroken},
		{b, summed([]byte("LB\x01\x04"), sum, []byte{0, 3, 0}), api.ErrBroken},
		{b, summed([]byte("LB\x01\x03"), []byte{sum[3], sum[2], sum[1], sum[0]}, []byte{0, 3, 0}), api.ErrBroken},
		// A length is told ahead of the sum, and both ahead of what follows.
		{b, summed([]byte("LB\x01\x02")), api.ErrBroken},
		{b, summed([]byte("LB\x01\x02"), sum[:3]), api.ErrBroken},
		{b, summed([]byte("LB\x01\x03")), api.ErrShort},
		{b, summed([]byte("LB\x01\x03"), sum[:1]), api.ErrShort},
		{b, summed([]byte("LB\x01\x03"), sum[:3]), api.ErrShort},
		{b, summed([]byte("LB\x01\x03"), []byte{0, 0, 0}), api.ErrShort},
		{b, summed([]byte("LB\x01\x03"), []byte{0, 0, 0, 0}), api.ErrBroken},
		{b, summed([]byte("LB\x01\x03"), []byte{0, 0, 0, 0, 9, 9}), api.ErrBroken},
		{b, summed([]byte("LB\x01\x03"), sum), api.ErrShort},
		{b, summed([]byte("LB\x01\x03"), sum, []byte{3}), api.ErrForm},
		// A record of no bytes isn't that of a message whose sum is 0, too.
		{[]byte{0x9D, 0x0A, 0xD9, 0x6D}, treeRecord(0, 0, 0), api.ErrBroken},
	} {
		if got := check(t, c.b, c.rec); got != c.want {
			t.Errorf("Get(%q, %v): %v, not %v", c.b, c.rec, got, c.want)
		}
	}
}

// P14.2: trees that may not be, or whose bytes are short, or left.
func TestGetTrees(t *testing.T) {
	message := []byte{2, 0, 0}
	multi := []byte{1, 0, 0, 1, 0, 0}
	end := []byte{0, 0}
	leaf := []byte{0, 0, 0}
	cat := slices.Concat[[]byte]
	in := func(n int) []byte { return cat(bytes.Repeat(multi, n), leaf, bytes.Repeat(end, n)) }
	under := func(n int) []byte { return cat(bytes.Repeat(message, n), leaf) }
	kids := func(n int) []byte {
		return cat([]byte{1, 0, 0}, numbered(uint64(n)), bytes.Repeat(cat(end, leaf), n), end)
	}
	for name, c := range map[string]struct {
		tree []byte
		want api.Errno
	}{
		"a leaf":                           {leaf, api.OK},
		"a leaf, and more":                 {append(leaf[:3:3], 0), api.ErrLeft},
		"kind 3":                           {[]byte{3, 0, 0}, api.ErrForm},
		"kind 3 at once":                   {[]byte{3}, api.ErrForm},
		"kind 127":                         {[]byte{127}, api.ErrForm},
		"kind 128":                         {[]byte{128, 1}, api.ErrForm},
		"a kid's kind 3":                   {[]byte{2, 0, 0, 3}, api.ErrForm},
		"a message without its kid":        {message, api.ErrShort},
		"a message":                        {under(1), api.OK},
		"a message of two":                 {cat(message, leaf, leaf), api.ErrLeft},
		"32 messages":                      {under(32), api.OK},
		"33 messages":                      {under(33), api.ErrForm},
		"33 messages, and less":            {bytes.Repeat(message, 34), api.ErrForm},
		"32 messages, and more":            {append(under(32), 0), api.ErrLeft},
		"32 messages, and less":            {under(32)[:97], api.ErrShort},
		"32 multis":                        {in(32), api.OK},
		"33 multis":                        {in(33), api.ErrForm},
		"33 multis, and less":              {bytes.Repeat(multi, 34), api.ErrForm},
		"32 multis, and more":              {append(in(32), 0), api.ErrLeft},
		"no kids":                          {kids(0), api.ErrForm},
		"no kids, and more":                {append(kids(0), 0), api.ErrLeft},
		"no kids, and less":                {kids(0)[:5], api.ErrShort},
		"a kid":                            {kids(1), api.OK},
		"999 kids":                         {kids(999), api.OK},
		"1000 kids":                        {kids(1000), api.ErrBig},
		"1000 kids, and more":              {append(kids(1000), 0), api.ErrLeft},
		"1000 kids, and less":              {kids(1000)[:4000], api.ErrShort},
		"1001 kids":                        {kids(1001), api.ErrForm},
		"1001 kids, at once":               {kids(1001)[:5], api.ErrForm},
		"2^40 - 1 kids":                    {cat([]byte{1, 0, 0}, numbered(1<<40-1)), api.ErrForm},
		"500 kids twice":                   {cat([]byte{1, 0, 0, 2, 0, 0}, kids(498), end, kids(499), end), api.OK},
		"more than 1000 parts":             {cat([]byte{1, 0, 0, 2, 0, 0}, kids(499), end, kids(499), end), api.ErrBig},
		"two kids, and bytes ahead":        {[]byte{1, 0, 2, 1, 1, 0, 0, 0, 0, 1, 0}, api.ErrForm},
		"a body that is too long":          {[]byte{0, 0, 1}, api.ErrForm},
		"a header that is too long":        {[]byte{0, 1, 0}, api.ErrForm},
		"a message's kid too long":         {[]byte{2, 0, 0, 0, 0, 1}, api.ErrForm},
		"a delimiter that is too long":     {[]byte{1, 0, 0, 1, 0, 1, 0, 0, 0, 0, 0}, api.ErrForm},
		"a close one that is too long":     {[]byte{1, 0, 0, 1, 0, 0, 0, 0, 0, 0, 1}, api.ErrForm},
		"bytes ahead of the first one":     {[]byte{1, 0, 0, 1, 1, 0, 0, 0, 0, 0, 0}, api.ErrForm},
		"bytes ahead of the close one":     {[]byte{1, 0, 0, 1, 0, 0, 0, 0, 0, 1, 0}, api.ErrForm},
		"more deep ones than there may be": {cat([]byte{1, 0, 0, 250}, []byte{1}, bytes.Repeat(cat(end, under(31)), 250), end), api.ErrBig},
	} {
		if got := check(t, nil, treeRecord(c.tree...)); got != c.want {
			t.Errorf("%s: %v, not %v", name, got, c.want)
		}
	}
}

// P14.2: parts that are told where they stand.
func TestGet(t *testing.T) {
	b := []byte("0123456789abcdef")
	for _, c := range []struct {
		tree []byte
		want tree.Part
	}{
		{[]byte{0, 6, 10}, tree.Part{Head: span(0, 6), Body: span(6, 16)}},
		{[]byte{2, 3, 13, 0, 4, 9}, tree.Part{Kind: 2, Head: span(0, 3), Body: span(3, 16), Kids: []tree.Part{{Head: span(3, 7), Body: span(7, 16)}}}},
		{[]byte{1, 2, 14, 2, 1, 2, 0, 1, 1, 0, 3, 0, 0, 2, 0, 1}, tree.Part{Kind: 1, Head: span(0, 2), Body: span(2, 16), End: span(12, 13),
			Cuts: []api.Span{span(3, 5), span(7, 10)}, Kids: []tree.Part{{Head: span(5, 6), Body: span(6, 7)}, {Head: span(10, 10), Body: span(10, 12)}}}},
		{[]byte{1, 2, 14, 1, 0, 1, 2, 1, 4, 0, 2, 2, 0, 8}, tree.Part{Kind: 1, Head: span(0, 2), Body: span(2, 16), End: span(8, 16), Cuts: []api.Span{span(2, 3)},
			Kids: []tree.Part{{Kind: 2, Head: span(3, 4), Body: span(4, 8), Kids: []tree.Part{{Head: span(4, 6), Body: span(6, 8)}}}}}},
	} {
		rec := summed(headOf(b), c.tree)
		got, err := Get(b, rec)
		if err != api.OK || !reflect.DeepEqual(got, c.want) {
			t.Errorf("of %v: %v, %v, not %v", c.tree, got, err, c.want)
		}
		check(t, b, rec)
	}
	// Bytes between a kid and the next delimiter may be told, but stand nowhere.
	if got := check(t, b, summed(headOf(b), []byte{1, 2, 14, 2, 1, 2, 0, 1, 1, 1, 2, 0, 0, 2, 0, 1})); got != api.ErrForm {
		t.Errorf("bytes ahead of the second delimiter: %v", got)
	}
}

// P14.2: records that end too early are told short, wherever they do.
func TestGetShort(t *testing.T) {
	for _, text := range trees() {
		b := []byte(text)
		rec := put(t, b, parse(t, text))
		ahead := rec[:len(rec)-4]
		for end := range ahead {
			want := api.ErrShort
			if end < 3 {
				want = api.ErrForm
			}
			if got := check(t, b, summed(ahead[:end])); got != want {
				t.Errorf("%v: %v, not %v", ahead[:end], got, want)
			}
			check(t, b, rec[:end])
			check(t, b, rec[end:])
			check(t, b, summed(ahead[end:]))
		}
		if got := check(t, b, summed(ahead, []byte{0})); got != api.ErrLeft {
			t.Errorf("%v, and more: %v", ahead, got)
		}
	}
}

// P14.2: records that are as they should be but for a byte or two, and their sums are theirs.
func TestGetChanged(t *testing.T) {
	some := []byte{0, 1, 2, 3, 4, 31, 32, 33, 126, 127, 128, 129, 130, 254, 255}
	told := map[api.Errno]int{}
	for _, text := range trees() {
		b := []byte(text)
		rec := put(t, b, parse(t, text))
		ahead := rec[:len(rec)-4]
		for at := range ahead {
			for _, c := range append([]byte{ahead[at] - 1, ahead[at] + 1}, some...) {
				changed := slices.Clone(ahead)
				changed[at] = c
				told[check(t, b, summed(changed))]++
				if next := at + 1 + int(c)%3; next < len(changed) {
					changed[next] += ahead[at] - c
					told[check(t, b, summed(changed))]++
				}
				told[check(t, b, summed(slices.Insert(slices.Clone(ahead), at, c)))]++
			}
			told[check(t, b, summed(slices.Delete(slices.Clone(ahead), at, at+1)))]++
		}
	}
	for _, err := range []api.Errno{api.OK, api.ErrShort, api.ErrForm, api.ErrLeft, api.ErrBroken} {
		if told[err] < 100 {
			t.Errorf("%v is told %d times", err, told[err])
		}
	}
}

// P14.2: all trees of small numbers.
func TestGetSmall(t *testing.T) {
	b := []byte("ab")
	got := 0
	row := make([]byte, 0, 12)
	var tell func(left int, top byte)
	tell = func(left int, top byte) {
		if check(t, b, summed(headOf(b), row)) == api.OK {
			got++
		}
		if left == 0 {
			return
		}
		for c := range top {
			row = append(row, c)
			tell(left-1, top)
			row = row[:len(row)-1]
		}
	}
	tell(7, 4)
	for _, first := range [][]byte{{1, 0, 2, 1}, {1, 0, 2, 2, 0, 0}, {1, 1, 1, 1}, {2, 1, 1}, {2, 0, 2, 1, 0, 2, 1}} {
		row = append(row[:0], first...)
		tell(7, 3)
	}
	if got < 30 {
		t.Errorf("%d are got", got)
	}
}

// P14.3: what is put is got.
func TestFollows(t *testing.T) {
	follow := func(text string) {
		t.Helper()
		b, p := []byte(text), parse(t, text)
		rec := put(t, b, p)
		got, err := Get(b, rec)
		if err != api.OK || !reflect.DeepEqual(got, p) {
			t.Fatalf("of %q: %v, %v, not %v", text, got, err, p)
		}
		if n, is := Size(rec); n != len(text) || !is {
			t.Fatalf("of %q: a size of %d, %v", text, n, is)
		}
	}
	for _, text := range trees() {
		for at := range len(text) + 1 {
			follow(text[:at])
			follow(text[at:])
			follow(text[:at] + "\n--a\n" + text[at:])
			follow(text[:at] + "\n--b--\n" + text[at:])
		}
	}
	pieces := []string{
		"Content-Type: multipart/digest; boundary=a\n\n", "Content-Type: multipart/mixed; boundary=b\r\n\r\n",
		"Content-Type: message/rfc822\n\n", "\n", "x\n", "--a\n", "--b\r\n", "--b--\n", "--a--\n",
	}
	state := uint32(1)
	for range 20000 {
		var text strings.Builder
		for range 12 {
			state = state*1664525 + 1013904223
			text.WriteString(pieces[state>>16%uint32(len(pieces))])
		}
		follow(text.String())
	}
}

// P14.3: a tree is got as it was put, though it is none that Parse would tell.
func TestFollowsByHand(t *testing.T) {
	for _, p := range []tree.Part{
		nest(tree.Message, 32), nest(tree.Multi, 32), flat(999),
		{Kind: 1, Kids: []tree.Part{nest(tree.Message, 31), {}, nest(tree.Multi, 31)}, Cuts: make([]api.Span, 3)},
	} {
		got, err := Get(nil, put(t, nil, p))
		if err != api.OK || !reflect.DeepEqual(got, p) {
			t.Errorf("%v, %v, not %v", got, err, p)
		}
	}
	// Nil and empty lists are one.
	empty := tree.Part{Kids: []tree.Part{}, Cuts: []api.Span{}}
	if rec := put(t, []byte{}, empty); !bytes.Equal(rec, put(t, nil, tree.Part{})) {
		t.Errorf("of empty lists: %v", rec)
	}
}

// P14.3: no record is got of which up to 32 bits on end were changed.
func TestChangedBits(t *testing.T) {
	for _, text := range []string{"", "A: b\r\n\r\nx", trees()[16]} {
		b := []byte(text)
		rec := put(t, b, parse(t, text))
		state := uint32(len(rec))
		for from := range len(rec) * 8 {
			for width := 1; width <= 32 && from+width <= len(rec)*8; width++ {
				state = state*1664525 + 1013904223
				for _, pattern := range []uint32{1 | 1<<(width-1), math.MaxUint32 >> (32 - width), (state | 1 | 1<<(width-1)) & (math.MaxUint32 >> (32 - width))} {
					changed := slices.Clone(rec)
					for i := range width {
						changed[(from+i)/8] ^= byte(pattern >> i & 1 << ((from + i) % 8))
					}
					p, err := Get(b, changed)
					n, is := Size(changed)
					if err != api.ErrSum || !reflect.DeepEqual(p, tree.Part{}) || n != 0 || is {
						t.Fatalf("%v, once %v: %v, %v; %d, %v", changed, rec, p, err, n, is)
					}
				}
			}
		}
	}
}

// P14.2: a size is told of what begins as a record, whatever follows.
func TestSize(t *testing.T) {
	start := []byte("LB\x01")
	for _, c := range []struct {
		rec  []byte
		n    int
		want bool
	}{
		{nil, 0, false},
		{[]byte("LB\x01"), 0, false},
		{[]byte{0, 0, 0, 0}, 0, false},
		{[]byte("LB\x01\x05"), 0, false},
		{summed(start), 0, false},
		{summed(start, []byte{5}), 5, true},
		{summed(start, []byte{5, 200, 200}), 5, true},
		{summed(start, []byte{0}), 0, true},
		{summed(start, []byte{0, 9}), 0, true},
		{append(summed(start, []byte{5}), 0), 0, false},
		{append([]byte("LB\x01\x05"), 0, 0, 0, 0), 0, false},
		{summed([]byte("LB\x02\x05")), 0, false},
		{summed([]byte("LA\x01\x05")), 0, false},
		{summed([]byte("LB\x01\x80")), 0, false},
		{summed([]byte("LB\x01\x80\x00")), 0, false},
		{summed([]byte("LB\x01\x80\x01")), 128, true},
		{summed([]byte("LB\x01\xff\xff\xff\xff\xff\x1f")), 1<<40 - 1, true},
		{summed([]byte("LB\x01\xff\xff\xff\xff\xff\x20")), 0, false},
		{summed([]byte("LB\x01\xff\xff\xff\xff\xff\x9f\x00")), 0, false},
		{summed([]byte("LB\x01\x80\x80\x80\x80\x80\x20")), 0, false},
		{summed(start, numbered(1<<26)), 1 << 26, true},
		{treeRecord(0, 0, 0), 0, true},
		{treeRecord(9), 0, true},
	} {
		n, is := Size(c.rec)
		if n != c.n || is != c.want {
			t.Errorf("Size(%v) = %d, %v, not %d, %v", c.rec, n, is, c.n, c.want)
		}
		check(t, make([]byte, 5), c.rec)
	}
}

// A reader's errors are wrapped ones, which tell where they were found.
func TestFaults(t *testing.T) {
	for _, c := range []struct {
		rec  []byte
		want api.Errno
		text string
	}{
		{nil, api.ErrShort, "record, byte 0: letterbox: error 10"},
		{[]byte{1, 2, 3, 4}, api.ErrSum, "record, byte 0: letterbox: error 15"},
		{summed([]byte("XX")), api.ErrForm, "record, byte 0: letterbox: error 11"},
		{treeRecord(2, 0, 0), api.ErrShort, "record, byte 11: letterbox: error 10"},
		{treeRecord(3, 0, 0), api.ErrForm, "record, byte 9: letterbox: error 11"},
		{treeRecord(0, 0, 0, 7), api.ErrLeft, "record, byte 11: letterbox: error 12"},
		{treeRecord(0, 0, 1), api.ErrForm, "record, byte 11: letterbox: error 11"},
		{summed([]byte("LB\x01\x09")), api.ErrBroken, "record, byte 4: letterbox: error 34"},
	} {
		_, err := read(nil, c.rec)
		if err == nil || err.Error() != c.text || !errors.Is(err, c.want) || err == error(c.want) || numberOf(err) != c.want {
			t.Errorf("%v: %v", c.rec, err)
		}
	}
	if got := numberOf(nil); got != api.OK {
		t.Errorf("of no error: %v", got)
	}
	if _, err := read(nil, treeRecord(0, 0, 0)); err != nil {
		t.Errorf("%v", err)
	}
}

// What is handed in stays as it is, and what is answered shares nothing with it.
func TestKeepsNothing(t *testing.T) {
	text := trees()[16]
	b, p := []byte(text), parse(t, text)
	rec := put(t, b, p)
	if string(b) != text || !reflect.DeepEqual(p, parse(t, text)) {
		t.Error("what is put is changed")
	}
	long := append(slices.Clone(rec), "more"...)
	got, err := Get(b, long[:len(rec)])
	if err != api.OK || string(long) != string(rec)+"more" || string(b) != text {
		t.Errorf("what is got is changed: %v, %v", long, err)
	}
	clear(long)
	clear(b)
	if !reflect.DeepEqual(got, p) {
		t.Error("what was got changes with its record")
	}
	got.Kids[0].Kids[0].Head.From = -1
	got.Cuts[0].From = -1
	rec[0] = 0
	b = []byte(text)
	again, err := Put(b, p)
	if back, _ := Get(b, again); err != api.OK || !reflect.DeepEqual(back, p) {
		t.Error("the same calls have other answers")
	}
}
