package envelope

import (
	"fmt"
	"math/rand"
	"reflect"
	"regexp"
	"slices"
	"strconv"
	"strings"
	"testing"

	"letterbox/addr"
	"letterbox/api"
	"letterbox/tree"
	"letterbox/wire"
)

// These are forms of what Of, List and Put should answer: headers are laid of fields whose values are known, and what is told is put together by replacing signs in a form of it.

var (
	plainForm = regexp.MustCompile(`\A[ -~]{0,1000}\z`)
	quote     = strings.NewReplacer(`"`, `\"`, `\`, `\\`)
)

// shown is anything as a text of what it is made of.
func shown(v any) string { return fmt.Sprintf("%.600s", fmt.Sprintf("%+q", v)) }

// parse is the tree of a text.
func parse(t *testing.T, text string) tree.Part {
	t.Helper()
	p, err := tree.Parse([]byte(text))
	if err != api.OK {
		t.Fatalf("Parse(%.60q): %v", text, err)
	}
	return p
}

// headed is a part of which all of a text is the header.
func headed(text string) tree.Part {
	return tree.Part{Head: api.Span{From: 0, To: len(text)}, Body: api.Span{From: len(text), To: len(text)}}
}

// box is a mailbox.
func box(name, local, host string) addr.Address {
	return addr.Address{Kind: 0, Name: name, Local: local, Host: host}
}

// begin is where a group begins.
func begin(name string) addr.Address { return addr.Address{Kind: 1, Name: name} }

// end is where one ends.
func end() addr.Address { return addr.Address{Kind: 2} }

// list are some addresses.
func list(all ...addr.Address) []addr.Address { return all }

// lists are the lists of an envelope, in order; those that aren't named are nothing.
func lists(all ...[]addr.Address) (six [6][]addr.Address) {
	copy(six[:], all)
	return six
}

// same tells whether two envelopes are; nil lists and empty ones are one.
func same(a, b Envelope) bool {
	for place := range a.Lists {
		if !slices.Equal(a.Lists[place], b.Lists[place]) {
			return false
		}
	}
	a.Lists, b.Lists = lists(), lists()
	return reflect.DeepEqual(a, b)
}

// checkOf holds Of a part against what is wanted.
func checkOf(t *testing.T, text string, p tree.Part, want Envelope) {
	t.Helper()
	b := []byte(text)
	got := Of(b, p)
	if !same(got, want) {
		t.Fatalf("Of(%.300q, %v) = %s, not %s", text, p, shown(got), shown(want))
	}
	if string(b) != text {
		t.Fatalf("Of(%.300q, %v) changed it into %.300q", text, p, b)
	}
}

// stringWanted is a text as a string.
func stringWanted(text string) string {
	if plainForm.MatchString(text) {
		return `"` + quote.Replace(text) + `"`
	}
	return strings.Repeat("~", min(strings.Count(text, "\x00"), 1)) + "{" + strconv.Itoa(len(text)) + "}\r\n" + text
}

// filled is a form in which each _ is a text in turn: as a string, or NIL, if it isn't to be told.
func filled(form string, texts []string, told []bool) string {
	pieces := strings.Split(form, "_")
	all := pieces[0]
	for i, piece := range pieces[1:] {
		if told[i] {
			all += stringWanted(texts[i])
		} else {
			all += "NIL"
		}
		all += piece
	}
	return all
}

// listWanted is what List should answer.
func listWanted(l []addr.Address) string {
	told := ""
	for _, a := range l {
		switch a.Kind {
		case 0:
			told += filled("(_ NIL _ _)", []string{a.Name, a.Local, a.Host}, []bool{len(a.Name) > 0, true, len(a.Host) > 0})
		case 1:
			told += filled("(NIL NIL _ NIL)", []string{a.Name}, []bool{true})
		default:
			told += "(NIL NIL NIL NIL)"
		}
	}
	return strings.Replace("("+told+")", "()", "NIL", max(0, 1-len(l)))
}

// putWanted is what Put should answer.
func putWanted(e Envelope) string {
	all := []string{filled("_ _", []string{e.Date, e.Subject}, e.Has[:2])}
	for _, l := range e.Lists {
		all = append(all, listWanted(l))
	}
	all = append(all, filled("_ _", []string{e.Reply, e.Id}, e.Has[2:]))
	return "(" + strings.Join(all, " ") + ")"
}

// checkList holds List of addresses against what is wanted.
func checkList(t *testing.T, l []addr.Address) {
	t.Helper()
	was := slices.Clone(l)
	if got, want := List(l), listWanted(l); got != want {
		t.Fatalf("List(%s) = %.600q, not %.600q", shown(l), got, want)
	}
	if !slices.Equal(l, was) {
		t.Fatalf("List(%s) changed it into %s", shown(was), shown(l))
	}
}

// checkPut holds Put of an envelope against what is wanted, and reads it back (P19.3).
func checkPut(t *testing.T, e Envelope) {
	t.Helper()
	for _, l := range e.Lists {
		checkList(t, l)
	}
	got, want := Put(e), putWanted(e)
	if got != want {
		t.Fatalf("Put(%s) = %.600q, not %.600q", shown(e), got, want)
	}
	back, is := readBack(got)
	if !is {
		t.Fatalf("Put(%s) = %.600q, which aren't ten tokens or lists", shown(e), got)
	}
	if bare := bared(e); !same(back, bare) {
		t.Fatalf("Put(%s) = %.600q is read as %s", shown(e), got, shown(back))
	}
}

// bared is what may be read back of an envelope: a box without a host is told as a group's beginning is, but that this has no name.
func bared(e Envelope) Envelope {
	for place, text := range []*string{&e.Date, &e.Subject, &e.Reply, &e.Id} {
		if !e.Has[place] {
			*text = ""
		}
	}
	for place, l := range e.Lists {
		l = slices.Clone(l)
		for i, a := range l {
			switch {
			case a.Kind < 0 || a.Kind > 1:
				l[i] = end()
			case a.Kind == 1 || a.Name == "" && a.Host == "":
				l[i] = begin(a.Name + a.Local)
				if a.Kind == 1 {
					l[i] = begin(a.Name)
				}
			}
		}
		e.Lists[place] = l
	}
	return e
}

// reading are tokens that wait to be read.
type reading struct{ tokens []wire.Token }

// is takes a token of a kind, if it comes next.
func (r *reading) is(kind int) bool {
	if len(r.tokens) == 0 || r.tokens[0].Kind != kind {
		return false
	}
	r.tokens = r.tokens[1:]
	return true
}

// text takes a string or NIL: what it says, whether it says anything, and whether it is one of these.
func (r *reading) text() (string, bool, bool) {
	if len(r.tokens) == 0 {
		return "", false, false
	}
	token := r.tokens[0]
	r.tokens = r.tokens[1:]
	if token.Kind == 2 {
		return token.Text, true, true
	}
	return "", false, token == wire.Token{Kind: 1, Text: "NIL"}
}

// list takes addresses, or NIL.
func (r *reading) list() ([]addr.Address, bool) {
	if !r.is(wire.Open) {
		_, some, is := r.text()
		return nil, is && !some
	}
	var all []addr.Address
	for !r.is(wire.Close) {
		a, is := r.address()
		if !is {
			return nil, false
		}
		all = append(all, a)
	}
	return all, len(all) > 0
}

// address takes one.
func (r *reading) address() (addr.Address, bool) {
	var texts [4]string
	var some [4]bool
	ahead := wire.Open
	for place := range texts {
		if !r.is(ahead) {
			return addr.Address{}, false
		}
		var is bool
		if texts[place], some[place], is = r.text(); !is {
			return addr.Address{}, false
		}
		ahead = wire.Space
	}
	switch {
	case some[1] || !r.is(wire.Close):
		return addr.Address{}, false
	case !some[2]:
		return end(), !some[0] && !some[3]
	case !some[0] && !some[3]:
		return begin(texts[2]), true
	}
	// Of a name or a host that is empty nothing is told.
	whole := some[0] == (texts[0] != "") && some[3] == (texts[3] != "")
	return box(texts[0], texts[2], texts[3]), whole
}

// readBack is the envelope that a text tells, token by token.
func readBack(text string) (Envelope, bool) {
	var e Envelope
	tokens, err := wire.Tokens([]byte(text))
	r := reading{tokens}
	if err != api.OK || !r.is(wire.Open) {
		return e, false
	}
	texts := map[int]int{0: 0, 1: 1, 8: 2, 9: 3}
	var told [4]string
	for place := range 10 {
		if place > 0 && !r.is(wire.Space) {
			return e, false
		}
		var is bool
		if n, text := texts[place]; text {
			told[n], e.Has[n], is = r.text()
		} else {
			e.Lists[place-2], is = r.list()
		}
		if !is {
			return e, false
		}
	}
	e.Date, e.Subject, e.Reply, e.Id = told[0], told[1], told[2], told[3]
	return e, r.is(wire.Close) && len(r.tokens) == 0
}

// drawn is one of some things.
func drawn[T any](r *rand.Rand, all ...T) T { return all[r.Intn(len(all))] }
