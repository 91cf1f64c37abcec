package params

import (
	"strings"

	"letterbox/chars"
)

// text is what a reader reads.
type text string

// behindComment is where what follows on the comment at a place begins: the text's end, if it isn't ended.
func (t text) behindComment(at int) int {
	open := 0
	for ; at < len(t); at++ {
		switch t[at] {
		case '\\':
			at++
		case '(':
			open++
		case ')':
			open--
		}
		if open == 0 {
			return at + 1
		}
	}
	return len(t)
}

// behindToken is where the bytes from a place on that a token takes end.
func (t text) behindToken(at int) int {
	for at < len(t) && chars.Token(t[at]) {
		at++
	}
	return at
}

// unquoted is what the quoted text at a place tells, and where it ends; false: it isn't ended.
func (t text) unquoted(at int) (string, int, bool) {
	var told strings.Builder
	for at++; at < len(t); at++ {
		switch t[at] {
		case '"':
			return told.String(), at + 1, true
		case '\\':
			at++
			if at == len(t) {
				return "", at, false
			}
		}
		told.WriteByte(t[at])
	}
	return "", at, false
}

// reader is a place in a text.
type reader struct {
	text
	at int
}

// skip goes on behind blanks and comments.
func (r *reader) skip() {
skipped:
	for r.at < len(r.text) {
		switch c := r.text[r.at]; {
		case chars.Blank(c):
			r.at++
		case c == '(':
			r.at = r.behindComment(r.at)
		default:
			break skipped
		}
	}
}

// sees tells whether a byte is the next one.
func (r *reader) sees(c byte) bool { return r.at < len(r.text) && r.text[r.at] == c }

// takes goes on behind a byte, and what is skipped ahead of it; false: it isn't there.
func (r *reader) takes(c byte) bool {
	r.skip()
	is := r.sees(c)
	if is {
		r.at++
	}
	return is
}

// token is the next token, behind what is skipped; false: there is none.
func (r *reader) token() (string, bool) {
	r.skip()
	from := r.at
	r.at = r.behindToken(from)
	return string(r.text[from:r.at]), r.at > from
}

// name is the next token in small letters; false: there is none.
func (r *reader) name() (string, bool) {
	name, is := r.token()
	return chars.Fold(name), is
}

// sub is the next name behind a stroke; false: there is none.
func (r *reader) sub() (string, bool) {
	if !r.takes('/') {
		return "", false
	}
	return r.name()
}

// value is the next token or quoted text, behind what is skipped; false: there is none.
func (r *reader) value() (string, bool) {
	r.skip()
	if !r.sees('"') {
		return r.token()
	}
	value, behind, is := r.unquoted(r.at)
	r.at = behind
	return value, is
}

// param is the next parameter, as it stands there; false: there is none.
func (r *reader) param() (Param, bool) {
	if !r.takes(';') {
		return Param{}, false
	}
	name, is := r.name()
	if !is || !r.takes('=') {
		return Param{}, false
	}
	value, is := r.value()
	return Param{Name: name, Value: value}, is
}

// params are the next parameters, as they stand there.
func (r *reader) params() []Param {
	var all []Param
	for {
		p, is := r.param()
		if !is {
			return all
		}
		all = append(all, p)
	}
}
