package record

import (
	"encoding/binary"
	"hash/crc32"
	"slices"
	"strings"

	"letterbox/api"
	"letterbox/tiles"
	"letterbox/tree"
)

// These are forms of what Put and Get should answer: the one lists a tree's numbers ahead of writing them, the other cuts them off and panics at what is wrong.

// span are bytes from one on, below another one.
func span(from, to int) api.Span { return api.Span{From: from, To: to} }

// listed are the numbers of a tree at a place, and where it ends.
func listed(p tree.Part, at int) ([]uint64, int) {
	if p.Head.From != at {
		panic("a part isn't at its place")
	}
	row := []uint64{uint64(p.Kind), uint64(p.Head.To - at), uint64(p.Body.To - p.Body.From)}
	kid := func(place, at int) int {
		numbers, end := listed(p.Kids[place], at)
		row = append(row, numbers...)
		return end
	}
	behind := func(s api.Span, ahead int) int {
		row = append(row, uint64(s.From-ahead), uint64(s.To-s.From))
		return s.To
	}
	switch p.Kind {
	case 1:
		row = append(row, uint64(len(p.Kids)))
		ahead := p.Body.From
		for place := range p.Kids {
			ahead = kid(place, behind(p.Cuts[place], ahead))
		}
		behind(p.End, ahead)
	case 2:
		kid(0, p.Body.From)
	}
	return row, p.Body.To
}

// numbered are numbers, as they are written.
func numbered(row ...uint64) []byte {
	var b []byte
	for _, n := range row {
		b = binary.AppendUvarint(b, n)
	}
	return b
}

// summed are pieces, one behind the other, and their sum.
func summed(pieces ...[]byte) []byte {
	rec := slices.Concat(pieces...)
	return binary.LittleEndian.AppendUint32(rec, crc32.ChecksumIEEE(rec))
}

// headOf is what a message's record begins with, ahead of the tree.
func headOf(b []byte) []byte {
	return binary.LittleEndian.AppendUint32(slices.Concat([]byte("LB\x01"), numbered(uint64(len(b)))), crc32.ChecksumIEEE(b))
}

// recordOf is the record of a tree of which there is one.
func recordOf(b []byte, p tree.Part) []byte {
	row, _ := listed(p, 0)
	return summed(headOf(b), numbered(row...))
}

// cutter cuts off what is taken.
type cutter struct{ left []byte }

// bytes cuts off so many.
func (c *cutter) bytes(n int) []byte {
	if len(c.left) < n {
		panic(api.ErrShort)
	}
	b := c.left[:n]
	c.left = c.left[n:]
	return b
}

// number cuts off a number.
func (c *cutter) number() int {
	end := slices.IndexFunc(c.left[:min(len(c.left), 7)], func(x byte) bool { return x < 128 })
	if end < 0 && len(c.left) >= 7 {
		panic(api.ErrForm)
	}
	if end < 0 {
		panic(api.ErrShort)
	}
	n, _ := binary.Uvarint(c.left[:end+1])
	if n >= 1<<40 || len(numbered(n)) != end+1 {
		panic(api.ErrForm)
	}
	c.left = c.left[end+1:]
	return int(n)
}

// expect panics with an error, unless something is so.
func expect(is bool, err api.Errno) {
	if !is {
		panic(err)
	}
}

// tree cuts off a tree at a place.
func (c *cutter) tree(at, depth int) tree.Part {
	expect(depth <= 32, api.ErrForm)
	kind := c.number()
	expect(kind <= 2, api.ErrForm)
	behind := at + c.number()
	p := tree.Part{Kind: kind, Head: span(at, behind), Body: span(behind, behind+c.number())}
	if kind == 2 {
		p.Kids = []tree.Part{c.tree(behind, depth+1)}
	}
	if kind == 1 {
		n := c.number()
		expect(n <= 1000, api.ErrForm)
		next := func() api.Span {
			from := behind + c.number()
			behind = from + c.number()
			return span(from, behind)
		}
		for range n {
			p.Cuts = append(p.Cuts, next())
			p.Kids = append(p.Kids, c.tree(behind, depth+1))
			behind = p.Kids[len(p.Kids)-1].Body.To
		}
		p.End = next()
	}
	return p
}

// verdict is what Get should answer.
func verdict(b, rec []byte) (p tree.Part, err api.Errno) {
	defer func() {
		if told, is := recover().(api.Errno); is {
			p, err = tree.Part{}, told
		}
	}()
	expect(len(rec) >= 4, api.ErrShort)
	ahead := rec[:len(rec)-4]
	expect(binary.LittleEndian.Uint32(rec[len(rec)-4:]) == crc32.ChecksumIEEE(ahead), api.ErrSum)
	expect(strings.HasPrefix(string(rec), "LB\x01"), api.ErrForm)
	c := cutter{ahead[3:]}
	expect(c.number() == len(b), api.ErrBroken)
	expect(binary.LittleEndian.Uint32(c.bytes(4)) == crc32.ChecksumIEEE(b), api.ErrBroken)
	p = c.tree(0, 0)
	expect(len(c.left) == 0, api.ErrLeft)
	err = tiles.Check(p, len(b))
	expect(err == api.OK, err)
	return p, api.OK
}

// sizeOf is what Size should answer.
func sizeOf(rec []byte) (n int, is bool) {
	defer func() {
		if recover() != nil {
			n, is = 0, false
		}
	}()
	ahead := rec[:len(rec)-4]
	expect(string(rec[len(rec)-4:]) == string(summed(ahead)[len(rec)-4:]), api.ErrSum)
	expect(string(ahead[:3]) == "LB\x01", api.ErrForm)
	c := cutter{ahead[3:]}
	return c.number(), true
}

// trees are messages of all kinds of parts.
func trees() []string {
	mixed := "Content-Type: multipart/mixed; boundary=a\r\n\r\n"
	digest := "Content-Type: multipart/digest; boundary=b\n\n"
	message := "Content-Type: message/rfc822\n\n"
	return []string{
		"", "x", "\n", "A: b\r\n\r\nx", strings.Repeat("y", 127), strings.Repeat("y", 128), "A: b\n\n" + strings.Repeat("z\n", 300),
		mixed + "--a\n", mixed + "--a--\n", mixed + "p\r\n--a\r\n\r\nx\r\n--a\r\n\r\ny\r\n--a--\r\nq",
		mixed + "--a\n\nx\n--a\n--a\nB: c\n\n\n--a--", mixed + "--a\n\nx",
		message, message + "A: b\n\nx", message + message + "x", message + mixed + "--a\n\nx\n--a--\n",
		mixed + "--a\n" + digest + "p\n--b\n\nA: b\n\nx\n--b\n\n\ny\n--b--\nq\n--a\n" + message + "A: b\n\nz\n--a--\nq",
		mixed + "--a\n" + digest + "--b\n" + message + "x\n--a\n" + message + digest + "--b\n\n\n--b--\n--a--",
	}
}
