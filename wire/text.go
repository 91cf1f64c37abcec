package wire

import (
	"strings"

	"letterbox/chars"
	"letterbox/params"
)

// mostQuoted is how many bytes a text has at most that is told between quotes.
const mostQuoted = 1000

// String is a text as a quoted string, or a literal.
func String(s string) string {
	if len(s) <= mostQuoted && each(s, isPlain) {
		return params.Quoted(s)
	}
	return literal(s)
}

// NString is that, or NIL.
func NString(s string, is bool) string {
	if !is {
		return "NIL"
	}
	return String(s)
}

// Astring is a text as an atom, or that.
func Astring(s string) string {
	if s != "" && each(s, isAtom) {
		return s
	}
	return String(s)
}

// literal is a text as a literal.
func literal(s string) string {
	mark := ""
	if strings.IndexByte(s, 0) >= 0 {
		// A literal without the mark has no such byte.
		mark = "~"
	}
	return mark + "{" + chars.Digits(len(s)) + "}" + lineEnd + s
}

// each tells whether all bytes of a text are of a kind.
func each(s string, isOf func(c byte) bool) bool {
	for i := 0; i < len(s); i++ {
		if !isOf(s[i]) {
			return false
		}
	}
	return true
}

// isPlain tells whether a byte is one of ASCII that is seen, or a space.
func isPlain(c byte) bool { return c >= 32 && c <= 126 }

// isAtom tells whether a byte may stand in a text that is told as it is: a [ would take what follows along to a ].
func isAtom(c byte) bool { return chars.Atom(c) && c != '[' }
