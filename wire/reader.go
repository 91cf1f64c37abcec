package wire

import (
	"bytes"

	"letterbox/chars"
)

// lineEnd is what ends a line, that of a literal's head among them.
const lineEnd = "\r\n"

// reader is a place in bytes.
type reader struct {
	b  []byte
	at int
}

// head is what a literal's head tells: how many bytes it has, and whether they come unasked.
type head struct {
	many    int
	unasked bool
}

// token is the next one; false: there is none.
func (r *reader) token() (Token, bool) {
	switch {
	case r.takes("("):
		return Token{Kind: Open}, true
	case r.takes(")"):
		return Token{Kind: Close}, true
	case r.takes(" "):
		return Token{Kind: Space}, true
	case r.takes(`"`):
		text, is := r.quoted()
		return Token{Kind: Str, Text: string(text)}, is
	}
	if text, is := r.literal(); is {
		return Token{Kind: Str, Text: string(text)}, true
	}
	text, is := r.word()
	return Token{Kind: Word, Text: string(text)}, is
}

// takes goes on behind a piece; false: it isn't there.
func (r *reader) takes(piece string) bool {
	is := bytes.HasPrefix(r.b[r.at:], []byte(piece))
	if is {
		r.at += len(piece)
	}
	return is
}

// cut is what stands between two places: what is laid behind it never lies upon the bytes that follow.
func (r *reader) cut(from, to int) []byte { return r.b[from:to:to] }

// row is the next bytes, as many as there are, that are of a kind.
func (r *reader) row(isOf func(c byte) bool) []byte {
	from := r.at
	for r.at < len(r.b) && isOf(r.b[r.at]) {
		r.at++
	}
	return r.cut(from, r.at)
}

// quoted is what the text says that goes on behind a quote; false: it isn't ended, or a \ stands ahead of a byte that needs none.
func (r *reader) quoted() ([]byte, bool) {
	told := r.row(isUnmarked)
	for {
		switch {
		case r.takes(`"`):
			return told, true
		case r.takes(`\"`):
			told = append(told, '"')
		case r.takes(`\\`):
			told = append(told, '\\')
		default:
			return nil, false
		}
		told = append(told, r.row(isUnmarked)...)
	}
}

// isUnmarked tells whether a byte stands in a quoted text as it is.
func isUnmarked(c byte) bool { return c != '"' && c != '\\' }

// head is the literal's head that comes next; false: there is none.
func (r *reader) head() (head, bool) {
	r.takes("~")
	if !r.takes("{") {
		return head{}, false
	}
	many, is := chars.Number(string(r.row(isDigit)))
	unasked := r.takes("+")
	return head{many: many, unasked: unasked}, is && r.takes("}")
}

// isDigit tells whether a byte is one of a number.
func isDigit(c byte) bool { return c >= '0' && c <= '9' }

// lastHead is the literal's head that a text ends in; false: it ends in none.
func lastHead(text []byte) (head, bool) {
	from := bytes.LastIndexByte(text, '{')
	if from < 0 {
		return head{}, false
	}
	r := reader{b: text, at: from}
	h, is := r.head()
	return h, is && r.at == len(text)
}

// literal are the bytes of the literal that comes next, behind which it goes on; false: there is none, or not all of it.
func (r *reader) literal() ([]byte, bool) {
	ahead := *r
	h, is := ahead.head()
	if !is || !ahead.takes(lineEnd) || h.many > len(ahead.b)-ahead.at {
		return nil, false
	}
	r.at = ahead.at + h.many
	return r.cut(ahead.at, r.at), true
}

// atLiteral tells whether a literal comes next, and stays where it is.
func (r reader) atLiteral() bool {
	_, is := r.literal()
	return is
}

// word is the next one; false: there is none, or it has a [ without its ].
func (r *reader) word() ([]byte, bool) {
	from := r.at
word:
	for r.at < len(r.b) {
		switch c := r.b[r.at]; {
		case c == '[':
			if !r.bracket() {
				return nil, false
			}
		case !isWord(c), r.atLiteral():
			break word
		default:
			r.at++
		}
	}
	return r.cut(from, r.at), r.at > from
}

// isWord tells whether a byte may stand in a word.
func isWord(c byte) bool { return isPlain(c) && c != ' ' && c != '(' && c != ')' && c != '"' }

// bracket goes on behind the ] that ends what the [ at the place begins; false: there is none.
func (r *reader) bracket() bool {
	r.at++
	for r.at < len(r.b) {
		switch c := r.b[r.at]; {
		case r.takes("]"):
			return true
		case r.takes(`"`):
			if _, is := r.quoted(); !is {
				return false
			}
		case !isPlain(c):
			return false
		default:
			r.at++
		}
	}
	return false
}
