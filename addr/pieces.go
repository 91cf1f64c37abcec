package addr

import (
	"strings"

	"letterbox/chars"
)

const (
	signs = "<>:;,@"
	// Bytes that are no signs, and yet end a word that isn't quoted.
	parting = `()"`
)

// piece is what a text is made of: a sign, a word, or the end.
type piece any

// sign is a byte that stands by itself.
type sign byte

// word is what a word tells.
type word string

// end is where no piece can be read any more; whole: nothing is left there.
type end struct{ whole bool }

// inWord tells whether a byte may stand in a word.
func inWord(c byte) bool {
	return c > ' ' && c != 127 && strings.IndexByte(signs, c) < 0 && strings.IndexByte(parting, c) < 0
}

// behindBlanks is where what follows on blanks and comments at a place begins.
func behindBlanks(s string, at int) int {
	for at < len(s) {
		switch c := s[at]; {
		case chars.Blank(c):
			at++
		case c == '(':
			at = behindComment(s, at)
		default:
			return at
		}
	}
	return at
}

// behindComment is where what follows on the comment at a place begins: the text's end, if it isn't ended.
func behindComment(s string, at int) int {
	open := 0
	for ; at < len(s); at++ {
		switch s[at] {
		case '\\':
			at++
		case '(':
			open++
		case ')':
			open--
		}
		if open == 0 {
			return at + 1
		}
	}
	return len(s)
}

// pieceAt is the piece at a place, and where it ends.
func pieceAt(s string, at int) (piece, int) {
	if at == len(s) {
		return end{whole: true}, at
	}
	if strings.IndexByte(signs, s[at]) >= 0 {
		return sign(s[at]), at + 1
	}
	told, behind, is := wordAt(s, at)
	if !is {
		return end{}, at
	}
	return word(told), behind
}

// wordAt is what the word at a place tells, and where it ends; false: there is none.
func wordAt(s string, at int) (string, int, bool) {
	if s[at] == '"' {
		return unquoted(s, at)
	}
	return bare(s, at)
}

// bare is the word at a place that isn't quoted, and where it ends; false: there is none.
func bare(s string, from int) (string, int, bool) {
	at := from
within:
	for at < len(s) {
		switch c := s[at]; {
		case c == '[':
			long := strings.IndexByte(s[at:], ']')
			if long < 0 {
				return "", at, false
			}
			at += long + 1
		case inWord(c):
			at++
		default:
			break within
		}
	}
	return s[from:at], at, at > from
}

// unquoted is what the quoted text at a place tells, and where it ends; false: it isn't ended.
func unquoted(s string, at int) (string, int, bool) {
	var told strings.Builder
	for at++; at < len(s); at++ {
		switch s[at] {
		case '"':
			return told.String(), at + 1, true
		case '\\':
			at++
			if at == len(s) {
				return "", at, false
			}
		}
		told.WriteByte(s[at])
	}
	return "", at, false
}
