package record

import (
	"letterbox/api"
	"letterbox/tiles"
	"letterbox/tree"
)

// appendNumbers writes numbers behind bytes.
func appendNumbers(to []byte, numbers ...int) []byte {
	for _, n := range numbers {
		for ; n >= numberBase; n /= numberBase {
			to = append(to, byte(numberBase+n%numberBase))
		}
		to = append(to, byte(n))
	}
	return to
}

// appendSum writes a sum behind bytes.
func appendSum(to []byte, sum uint32) []byte {
	for range sumBytes {
		to = append(to, byte(sum))
		sum >>= 8
	}
	return to
}

// appendTree writes a part, and all below it, behind bytes.
func appendTree(to []byte, p tree.Part) []byte {
	to = appendNumbers(to, p.Kind, long(p.Head), long(p.Body))
	switch p.Kind {
	case tree.Multi:
		return appendMulti(to, p)
	case tree.Message:
		return appendTree(to, p.Kids[0])
	default:
		return to
	}
}

// appendMulti writes what a Multi has beside its header and body: kids, delimiters, and what stands ahead of these.
func appendMulti(to []byte, p tree.Part) []byte {
	to = appendNumbers(to, len(p.Kids))
	at := p.Body.From
	for place, kid := range p.Kids {
		cut := p.Cuts[place]
		to = appendNumbers(to, cut.From-at, long(cut))
		to = appendTree(to, kid)
		at = tiles.Bytes(kid).To
	}
	return appendNumbers(to, p.End.From-at, long(p.End))
}

// long is how many bytes a span has.
func long(s api.Span) int { return s.To - s.From }
