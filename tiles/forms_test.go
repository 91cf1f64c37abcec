package tiles

import (
	"letterbox/api"
	"letterbox/tree"
)

// These are forms of what Of and Check should answer: the one keeps what is left to tell on a stack, the other goes along the bytes.

// laid are the tiles that Of should answer.
func laid(p tree.Part) []Tile {
	var all []Tile
	left := []any{p}
	for len(left) > 0 {
		next := left[len(left)-1]
		left = left[:len(left)-1]
		switch x := next.(type) {
		case Tile:
			all = append(all, x)
		case tree.Part:
			row := rowOf(x)
			for i := range row {
				left = append(left, row[len(row)-1-i])
			}
		}
	}
	return all
}

// rowOf are a part's tiles, and the kids among them as they are.
func rowOf(p tree.Part) []any {
	row := []any{Tile{0, p.Head}}
	switch {
	case p.Kind == 1 && len(p.Cuts) > 0:
		row = append(row, Tile{2, api.Span{From: p.Body.From, To: p.Cuts[0].From}})
	case p.Kind == 1:
		row = append(row, Tile{2, api.Span{From: p.Body.From, To: p.End.From}})
	case p.Kind == 2 && len(p.Kids) > 0:
		return append(row, p.Kids[0])
	case p.Kind == 2:
		return row
	default:
		return append(row, Tile{1, p.Body})
	}
	for i, kid := range p.Kids {
		if i < len(p.Cuts) {
			row = append(row, Tile{3, p.Cuts[i]}, kid)
		}
	}
	return append(row, Tile{4, p.End}, Tile{5, api.Span{From: p.End.To, To: p.Body.To}})
}

// walker goes along the bytes of a tree; it is right till something doesn't begin where it stands.
type walker struct {
	at    int
	count int
	big   bool
	wrong bool
}

// expect tells that the next thing should be so.
func (w *walker) expect(is bool) { w.wrong = w.wrong || !is }

// pass goes behind bytes that should begin here.
func (w *walker) pass(s api.Span) {
	w.expect(s.From == w.at && s.To >= s.From)
	w.at = s.To
}

// part goes behind a part that should begin here.
func (w *walker) part(p tree.Part, depth int) {
	w.count++
	w.big = w.big || w.count > 1000 || depth > 32
	w.pass(p.Head)
	w.expect(p.Body.From == w.at && p.Body.To >= w.at)
	if p.Kind != 1 {
		w.expect(len(p.Cuts) == 0 && p.End.From == 0 && p.End.To == 0)
	}
	switch p.Kind {
	case 0:
		w.expect(len(p.Kids) == 0)
		w.at = p.Body.To
	case 1:
		w.expect(len(p.Kids) >= 1 && len(p.Kids) == len(p.Cuts))
		w.multi(p, depth)
		return
	case 2:
		w.expect(len(p.Kids) == 1)
	default:
		w.expect(false)
	}
	for _, kid := range p.Kids {
		w.part(kid, depth+1)
	}
	w.expect(w.at == p.Body.To)
}

// multi goes behind the body of a Multi.
func (w *walker) multi(p tree.Part, depth int) {
	if len(p.Cuts) > 0 {
		w.pass(api.Span{From: w.at, To: p.Cuts[0].From})
	}
	for i, kid := range p.Kids {
		if i < len(p.Cuts) {
			w.pass(p.Cuts[i])
		}
		w.part(kid, depth+1)
	}
	w.pass(p.End)
	w.pass(api.Span{From: w.at, To: p.Body.To})
}

// verdict is what Check should answer.
func verdict(p tree.Part, n int) api.Errno {
	var w walker
	w.part(p, 0)
	w.expect(w.at == n)
	switch {
	case w.big:
		return 13
	case w.wrong:
		return 11
	default:
		return 0
	}
}

// trees are messages of all kinds of parts.
func trees() []string {
	mixed := "Content-Type: multipart/mixed; boundary=a\r\n\r\n"
	digest := "Content-Type: multipart/digest; boundary=b\n\n"
	message := "Content-Type: message/rfc822\n\n"
	return []string{
		"", "x", "\n", "A: b\r\n\r\nx",
		mixed + "--a\n", mixed + "--a--\n", mixed + "p\r\n--a\r\n\r\nx\r\n--a\r\n\r\ny\r\n--a--\r\nq",
		mixed + "--a\n\nx\n--a\n--a\nB: c\n\n\n--a--", mixed + "--a\n\nx",
		message, message + "A: b\n\nx", message + message + "x", message + mixed + "--a\n\nx\n--a--\n",
		mixed + "--a\n" + digest + "p\n--b\n\nA: b\n\nx\n--b\n\n\ny\n--b--\nq\n--a\n" + message + "A: b\n\nz\n--a--\nq",
		mixed + "--a\n" + digest + "--b\n" + message + "x\n--a\n" + message + digest + "--b\n\n\n--b--\n--a--",
	}
}
