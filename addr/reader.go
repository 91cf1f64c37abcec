package addr

import "strings"

// reader is a place in a text, the piece ahead of it, and the addresses that were read.
type reader struct {
	text  string
	at    int
	ahead piece
	told  []Address
}

// next goes on to the next piece.
func (r *reader) next() {
	r.ahead, r.at = pieceAt(r.text, behindBlanks(r.text, r.at))
}

// ended tells whether all of the text was read.
func (r *reader) ended() bool {
	switch p := r.ahead.(type) {
	case end:
		return p.whole
	default:
		return false
	}
}

// takes goes on behind a sign; false: it isn't there.
func (r *reader) takes(c sign) bool {
	is := false
	switch p := r.ahead.(type) {
	case sign:
		is = p == c
	}
	if is {
		r.next()
	}
	return is
}

// word is the next word; false: there is none.
func (r *reader) word() (string, bool) {
	switch p := r.ahead.(type) {
	case word:
		r.next()
		return string(p), true
	default:
		return "", false
	}
}

// words are the next words.
func (r *reader) words() []string {
	var all []string
	for {
		w, is := r.word()
		if !is {
			return all
		}
		all = append(all, w)
	}
}

// tell keeps an address.
func (r *reader) tell(a Address) { r.told = append(r.told, a) }

// items goes on behind items of a kind, with commas between; false: one is broken.
func (r *reader) items(item func() bool) bool {
	for item() {
		if !r.takes(',') {
			return true
		}
	}
	return false
}

// item goes on behind a group, a mailbox, or nothing; false: it is broken.
func (r *reader) item() bool {
	words := r.words()
	if r.takes(':') {
		return r.group(words)
	}
	return r.box(words)
}

// group goes on behind the items and the end of the group of a name; false: it is broken.
func (r *reader) group(name []string) bool {
	r.tell(Address{Kind: Begin, Name: named(name)})
	is := r.items(func() bool { return r.box(r.words()) })
	r.tell(Address{Kind: End})
	return is && r.takes(';')
}

// box goes on behind the mailbox that begins with words, or behind nothing, if there are none; false: it is broken.
func (r *reader) box(words []string) bool {
	if r.takes('<') {
		return r.way() && r.place(named(words), r.words()) && r.takes('>')
	}
	return len(words) == 0 || r.place("", words)
}

// way goes on behind a way, if there is one; false: it is broken.
func (r *reader) way() bool {
	if !r.takes('@') {
		return true
	}
	for more := true; more; more = r.takes('@') {
		if _, is := r.word(); !is {
			return false
		}
		r.takes(',')
	}
	return r.takes(':')
}

// place goes on behind the host, if there is one, of a mailbox of which all words ahead were read; false: it is broken.
func (r *reader) place(name string, local []string) bool {
	host, is := "", true
	if r.takes('@') {
		host, is = r.word()
	}
	r.tell(Address{Kind: Box, Name: name, Local: strings.Join(local, ""), Host: host})
	return is && len(local) > 0
}

// named is the name that words make.
func named(words []string) string { return strings.Join(words, " ") }
