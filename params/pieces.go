package params

import (
	"strconv"
	"strings"

	"letterbox/chars"
)

// more is what stands in a name between its base, a piece's number, and the mark of codes.
const more = "*"

// given are parameters as they stand in a text, and which is the first of each name.
type given struct {
	all   []Param
	first map[string]int
}

// joined are the parameters that others tell of: one of each base, if it has a value.
func joined(all []Param) []Param {
	g := given{all: all, first: make(map[string]int)}
	for place, p := range all {
		if _, is := g.first[p.Name]; !is {
			g.first[p.Name] = place
		}
	}
	var params []Param
	told := make(map[string]struct{})
	for _, p := range all {
		base, _, _ := strings.Cut(p.Name, more)
		if _, again := told[base]; again || base == "" {
			continue
		}
		told[base] = struct{}{}
		if value, is := g.value(base); is {
			params = append(params, Param{Name: base, Value: value})
		}
	}
	return params
}

// plain is the value of the first of a name; false: there is none.
func (g given) plain(name string) (string, bool) {
	place, is := g.first[name]
	if !is {
		return "", false
	}
	return g.all[place].Value, true
}

// value is a base's; false: it has none.
func (g given) value(base string) (string, bool) {
	if value, is := g.plain(base); is {
		return value, true
	}
	if value, is := g.plain(base + more); is {
		return opened(behindMarks(value)), true
	}
	var whole strings.Builder
	for n := 0; ; n++ {
		piece, is := g.piece(base, n)
		if !is {
			return whole.String(), n > 0
		}
		whole.WriteString(piece)
	}
}

// piece is one of a base's value; false: there is none.
func (g given) piece(base string, n int) (string, bool) {
	name := base + more + chars.Digits(n)
	if value, is := g.plain(name); is {
		return value, true
	}
	value, is := g.plain(name + more)
	if n == 0 {
		// The charset and the language stand but once, at the front of all.
		value = behindMarks(value)
	}
	return opened(value), is
}

// behindMarks is what stands behind a text's second mark; all of it, if it has no two.
func behindMarks(value string) string {
	parts := strings.SplitN(value, "'", 3)
	if len(parts) < 3 {
		return value
	}
	return parts[2]
}

// opened is a text with the bytes that its codes tell.
func opened(value string) string {
	var open strings.Builder
	for at := 0; at < len(value); at++ {
		c, is := coded(value[at:])
		if is {
			at += 2
		} else {
			c = value[at]
		}
		open.WriteByte(c)
	}
	return open.String()
}

// coded is the byte that the code at a text's front tells; false: there is none.
func coded(value string) (byte, bool) {
	if len(value) < 3 || value[0] != '%' {
		return 0, false
	}
	c, err := strconv.ParseUint(value[1:3], 16, 8)
	return byte(c), err == nil
}
