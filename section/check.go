package section

const (
	mostPath   = 64
	mostNames  = 100
	mostNumber = 4294967295
)

// isNumber tells whether a number is one from the least on that 32 bits hold.
func isNumber(n, least int) bool {
	// An int may be too small for the greatest one.
	return n >= least && int64(n) <= mostNumber
}

// isPath tells whether a path may be.
func isPath(path []int) bool {
	if len(path) > mostPath {
		return false
	}
	for _, n := range path {
		if !isNumber(n, 1) {
			return false
		}
	}
	return true
}

// isWhat tells whether what is asked for may be, of a spec's path, and with its names.
func isWhat(s Spec) bool {
	switch s.What {
	case All, Header, Text:
		return len(s.Names) == 0
	case Fields, Not:
		return areNames(s.Names)
	case Mime:
		// The message itself has no header beside the one that Header asks for.
		return len(s.Names) == 0 && len(s.Path) > 0
	default:
		return false
	}
}

// areNames tells whether names of fields may be.
func areNames(names []string) bool {
	if len(names) < 1 || len(names) > mostNames {
		return false
	}
	for _, name := range names {
		if !isName(name) {
			return false
		}
	}
	return true
}

// isName tells whether all bytes of a name stand in a quoted text as they are.
func isName(name string) bool {
	for i := range len(name) {
		if name[i] < 32 || name[i] > 126 {
			return false
		}
	}
	return true
}

// isCut tells whether what is cut may be.
func isCut(s Spec) bool {
	if !s.Cut {
		return s.From == 0 && s.Many == 0
	}
	return isNumber(s.From, 0) && isNumber(s.Many, 1)
}
