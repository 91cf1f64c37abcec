package fetch

import (
	"letterbox/tree"
)

// down goes down a path from a message; false: it leads to no part.
func down(p tree.Part, path []int) (tree.Part, bool) {
	is := false
walk:
	for place, n := range path {
		// The first number alone is one of the message itself.
		parts := partsOf(p, place == 0)
		switch {
		case n < 1, n > len(parts):
			is = false
			break walk
		default:
			p, is = parts[n-1], true
		}
	}
	return p, is
}

// partsOf are the parts of a message, or of a part within one.
func partsOf(p tree.Part, message bool) []tree.Part {
	switch {
	case p.Kind == tree.Multi:
		return p.Kids
	case message:
		// What is no Multi is its own one part, also if it is a message in turn.
		return []tree.Part{p}
	case p.Kind == tree.Message && len(p.Kids) > 0:
		return partsOf(p.Kids[0], true)
	default:
		return nil
	}
}
