package tiles

import (
	"iter"

	"letterbox/api"
	"letterbox/lines"
	"letterbox/tree"
)

// parts tells how deep a part and all below it stand, and them.
func parts(p tree.Part) iter.Seq2[int, tree.Part] {
	return func(yield func(int, tree.Part) bool) { tellParts(p, 0, yield) }
}

// tellParts yields a part at a depth, and all below it; false: no more are wanted.
func tellParts(p tree.Part, depth int, yield func(int, tree.Part) bool) bool {
	if !yield(depth, p) {
		return false
	}
	for _, kid := range p.Kids {
		if !tellParts(kid, depth+1, yield) {
			return false
		}
	}
	return true
}

// isBig tells whether there are more parts, or deeper ones, than may be.
// It goes on no longer than that isn't known: a part that is made by hand may stand within itself.
func isBig(p tree.Part) bool {
	count := 0
	for depth := range parts(p) {
		count++
		if count > api.MaxParts || depth > api.MaxDepth {
			return true
		}
	}
	return false
}

// areFormed tells whether a part and all below it have what their kinds have.
func areFormed(p tree.Part) bool {
	for _, part := range parts(p) {
		if !isFormed(part) {
			return false
		}
	}
	return true
}

// isFormed tells whether a part has what its kind has, and its body right behind its head.
func isFormed(p tree.Part) bool {
	if p.Head.To != p.Body.From || p.Body.To < p.Body.From {
		return false
	}
	switch p.Kind {
	case tree.Leaf:
		return len(p.Kids) == 0 && isUncut(p)
	case tree.Multi:
		return len(p.Kids) > 0 && len(p.Kids) == len(p.Cuts)
	case tree.Message:
		return len(p.Kids) == 1 && Bytes(p.Kids[0]) == p.Body && isUncut(p)
	default:
		return false
	}
}

// isUncut tells whether a part has no delimiters.
func isUncut(p tree.Part) bool { return len(p.Cuts) == 0 && p.End == api.Span{} }

// isLaid tells whether a part's tiles, one behind the other, are so many bytes.
func isLaid(p tree.Part, n int) bool {
	at := 0
	for t := range each(p) {
		if t.At.From != at || !lines.Within(t.At, n) {
			return false
		}
		at = t.At.To
	}
	return at == n
}
