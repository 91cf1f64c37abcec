package section

import (
	"strings"

	"letterbox/chars"
	"letterbox/params"
)

// askedText is that of a spec's path and of the word of what it asks for.
func askedText(s Spec) string {
	var pieces []string
	for _, n := range s.Path {
		pieces = append(pieces, chars.Digits(n))
	}
	if s.What != All {
		pieces = append(pieces, words[s.What])
	}
	return strings.Join(pieces, ".")
}

// namesText is that of a list of names; nothing, if there are none.
func namesText(names []string) string {
	if len(names) == 0 {
		return ""
	}
	var texts []string
	for _, name := range names {
		texts = append(texts, nameText(name))
	}
	return " (" + strings.Join(texts, " ") + ")"
}

// nameText is a name as it is, or between quotes, if it needs them.
func nameText(name string) string {
	if isAtom(name) {
		return name
	}
	return params.Quoted(name)
}

// isAtom tells whether a name is an atom.
func isAtom(name string) bool {
	for i := range len(name) {
		if !chars.Atom(name[i]) {
			return false
		}
	}
	return name != ""
}

// cutText is that of what a spec cuts; without how many bytes, if it is an answer's.
func cutText(s Spec, answer bool) string {
	switch {
	case !s.Cut:
		return ""
	case answer:
		return "<" + chars.Digits(s.From) + ">"
	default:
		return "<" + chars.Digits(s.From) + "." + chars.Digits(s.Many) + ">"
	}
}
