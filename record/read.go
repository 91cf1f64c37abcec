package record

import (
	"bytes"

	"letterbox/api"
	"letterbox/crc"
	"letterbox/tiles"
	"letterbox/tree"
)

const (
	// numberTop is what all numbers of a record are below.
	numberTop = 1 << 40
	// numberBytes is how many bytes of a number are taken: with so many it isn't below numberTop, or isn't written so.
	numberBytes = 7
	// numberBits is how many bits a number's byte has, beside whether more follow.
	numberBits = 7
)

// reader takes a record's numbers, one by one.
type reader struct {
	rec []byte
	at  int
}

// read is the tree of a message's record.
func read(b, rec []byte) (tree.Part, error) {
	r, err := open(rec)
	if err != nil {
		return tree.Part{}, err
	}
	if err := r.message(b); err != nil {
		return tree.Part{}, err
	}
	p, err := r.tree(0, 0)
	if err != nil {
		return tree.Part{}, err
	}
	if r.at < len(r.rec) {
		return tree.Part{}, r.fault(api.ErrLeft)
	}
	if wrong := tiles.Check(p, len(b)); wrong != api.OK {
		return tree.Part{}, r.fault(wrong)
	}
	return p, nil
}

// open is a reader of what stands between a record's version and its own sum.
func open(rec []byte) (*reader, error) {
	end := len(rec) - sumBytes
	begin := appendNumbers([]byte(mark), Version)
	switch {
	case end < 0:
		return nil, fault{err: api.ErrShort}
	case sumOf(rec[end:]) != crc.Of(rec[:end]):
		return nil, fault{err: api.ErrSum}
	case !bytes.HasPrefix(rec[:end], begin):
		return nil, fault{err: api.ErrForm}
	}
	return &reader{rec: rec[:end], at: len(begin)}, nil
}

// fault is an error at where the reader stands.
func (r *reader) fault(err api.Errno) error { return fault{at: r.at, err: err} }

// number takes a number.
func (r *reader) number() (int, error) {
	n := 0
digits:
	for place := range numberBytes {
		digit, err := r.take(1)
		if err != nil {
			return 0, err
		}
		n += int(digit[0]%numberBase) << (place * numberBits)
		switch {
		case digit[0] >= numberBase:
			continue digits
		case n >= numberTop, digit[0] == 0 && place > 0:
			break digits
		}
		return n, nil
	}
	return 0, r.fault(api.ErrForm)
}

// take takes so many bytes.
func (r *reader) take(n int) ([]byte, error) {
	if len(r.rec)-r.at < n {
		return nil, r.fault(api.ErrShort)
	}
	r.at += n
	return r.rec[r.at-n : r.at], nil
}

// span takes how many bytes something has that begins at a place: where it stands.
func (r *reader) span(from int) (api.Span, error) {
	n, err := r.number()
	return api.Span{From: from, To: from + n}, err
}

// sumOf is the sum that four bytes tell.
func sumOf(b []byte) uint32 {
	sum := uint32(0)
	for place, c := range b {
		sum |= uint32(c) << (8 * place)
	}
	return sum
}

// message takes the length and the sum of a message, which should be those of bytes.
func (r *reader) message(b []byte) error {
	n, err := r.number()
	switch {
	case err != nil:
		return err
	case n != len(b):
		return r.fault(api.ErrBroken)
	}
	sum, err := r.take(sumBytes)
	switch {
	case err != nil:
		return err
	case sumOf(sum) != crc.Of(b):
		return r.fault(api.ErrBroken)
	}
	return nil
}

// tree takes a part that begins at a place, and all below it.
func (r *reader) tree(at, depth int) (tree.Part, error) {
	// What stands too deep isn't asked for its numbers: nothing of them could make it right.
	if depth > api.MaxDepth {
		return tree.Part{}, r.fault(api.ErrForm)
	}
	kind, err := r.atMost(tree.Message)
	if err != nil {
		return tree.Part{}, err
	}
	head, err := r.span(at)
	if err != nil {
		return tree.Part{}, err
	}
	body, err := r.span(head.To)
	if err != nil {
		return tree.Part{}, err
	}
	p := tree.Part{Kind: kind, Head: head, Body: body}
	switch kind {
	case tree.Multi:
		err = r.multi(&p, depth)
	case tree.Message:
		err = r.kid(&p, body.From, depth)
	}
	return p, err
}

// atMost takes a number that isn't above another one.
func (r *reader) atMost(most int) (int, error) {
	n, err := r.number()
	if err == nil && n > most {
		return 0, r.fault(api.ErrForm)
	}
	return n, err
}

// kid takes a kid of a part at a depth; it begins at a place.
func (r *reader) kid(p *tree.Part, at, depth int) error {
	kid, err := r.tree(at, depth+1)
	p.Kids = append(p.Kids, kid)
	return err
}

// multi takes what a Multi at a depth has beside its header and body.
func (r *reader) multi(p *tree.Part, depth int) error {
	kids, err := r.atMost(api.MaxParts)
	if err != nil {
		return err
	}
	at := p.Body.From
	for range kids {
		cut, err := r.apart(at)
		if err != nil {
			return err
		}
		p.Cuts = append(p.Cuts, cut)
		if err := r.kid(p, cut.To, depth); err != nil {
			return err
		}
		at = tiles.Bytes(p.Kids[len(p.Kids)-1]).To
	}
	p.End, err = r.apart(at)
	return err
}

// apart takes how far behind a place something stands, and how many bytes it has: where it stands.
func (r *reader) apart(at int) (api.Span, error) {
	ahead, err := r.span(at)
	if err != nil {
		return api.Span{}, err
	}
	return r.span(ahead.To)
}
