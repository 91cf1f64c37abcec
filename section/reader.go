package section

import (
	"strings"

	"letterbox/chars"
)

// reader is a place in a text.
type reader struct {
	text string
	at   int
}

// spec is the whole text's; false: it is none's.
func (r *reader) spec() (Spec, bool) {
	var s Spec
	is := r.takes("[") && r.asked(&s) && r.names(&s) && r.takes("]") && r.cut(&s)
	return s, is && r.at == len(r.text)
}

// asked keeps a path, and what the word behind it asks for; false: one of them is broken.
func (r *reader) asked(s *Spec) bool {
	for {
		n, is := r.number()
		if !is {
			break
		}
		s.Path = append(s.Path, n)
		if !r.takes(".") {
			return true
		}
	}
	what, is := r.what()
	s.What = what
	// A point stands ahead of a word, and All has none.
	return is && (what != All || len(s.Path) == 0)
}

// names keeps the list of names, if there is one; false: it is broken.
func (r *reader) names(s *Spec) bool {
	if !r.takes(" (") {
		return true
	}
names:
	for {
		name, is := r.name()
		if !is {
			return false
		}
		s.Names = append(s.Names, name)
		switch {
		case r.takes(" "):
			continue names
		case r.takes(")"):
			break names
		default:
			return false
		}
	}
	return true
}

// cut keeps what is cut, if there is such; false: it is broken.
func (r *reader) cut(s *Spec) bool {
	s.Cut = r.takes("<")
	if !s.Cut {
		return true
	}
	from, isFrom := r.number()
	isPoint := r.takes(".")
	many, isMany := r.number()
	s.From, s.Many = from, many
	return isFrom && isPoint && isMany && r.takes(">")
}

// takes goes on behind a piece; false: it isn't there.
func (r *reader) takes(piece string) bool {
	is := strings.HasPrefix(r.text[r.at:], piece)
	if is {
		r.at += len(piece)
	}
	return is
}

// row is the next bytes, as many as there are, that are of a kind.
func (r *reader) row(isOf func(c byte) bool) string {
	from := r.at
	for r.at < len(r.text) && isOf(r.text[r.at]) {
		r.at++
	}
	return r.text[from:r.at]
}

// number is the next one; false: there is none.
func (r *reader) number() (int, bool) {
	from := r.at
	n, is := chars.Number(r.row(func(c byte) bool { return c >= '0' && c <= '9' }))
	if !is {
		// Digits that are no number must not be left out of the word that is read then.
		r.at = from
	}
	return n, is
}

// what is what the next word, perhaps without a byte, asks for; false: it is no such word.
func (r *reader) what() (int, bool) {
	told := r.row(func(c byte) bool { return c != ' ' && c != ']' })
	for what, word := range words {
		if chars.Same(told, word) {
			return what, true
		}
	}
	return 0, false
}

// name is the next one; false: there is none.
func (r *reader) name() (string, bool) {
	if r.takes(`"`) {
		return r.quoted()
	}
	name := r.row(chars.Atom)
	return name, name != ""
}

// quoted is the name that goes on behind a quote; false: it isn't ended, or a \ stands ahead of a byte that needs none.
func (r *reader) quoted() (string, bool) {
	var told strings.Builder
	for {
		told.WriteString(r.row(func(c byte) bool { return c != '"' && c != '\\' }))
		switch {
		case r.takes(`"`):
			return told.String(), true
		case r.takes(`\"`):
			told.WriteByte('"')
		case r.takes(`\\`):
			told.WriteByte('\\')
		default:
			return "", false
		}
	}
}
