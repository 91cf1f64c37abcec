package wire

import (
	"fmt"
	"math/rand"
	"regexp"
	"slices"
	"strconv"
	"strings"
	"testing"

	"letterbox/api"
)

// These are forms of what Tokens, the texts and a Framer should answer: regular expressions, and bytes that are looked through anew each time.

const (
	mostLine    = 65536
	mostMessage = 67108864

	quotedForm = `"(?:[^"\\]|\\["\\])*"`
	headForm   = `~?\{(0|[1-9][0-9]{0,9})(\+?)\}`
)

var (
	signForm    = regexp.MustCompile(`\A[() ]`)
	strForm     = regexp.MustCompile(`\A` + quotedForm)
	literalForm = regexp.MustCompile(`\A` + headForm + "\r\n")
	pieceForm   = regexp.MustCompile(`\A(?:[!#-'*-Z\\-~]|\[(?:[ !#-\\^-~]|` + quotedForm + `)*\])`)
	plainForm   = regexp.MustCompile(`\A[ -~]{0,1000}\z`)
	atomForm    = regexp.MustCompile("\\A[!#$&'+-Z^-z|}~]+\\z")
	lineForm    = regexp.MustCompile("\\A([^\n]*?)\r?\n")
	endForm     = regexp.MustCompile(headForm + `\z`)

	unquote = strings.NewReplacer(`\"`, `"`, `\\`, `\`)
	quote   = strings.NewReplacer(`"`, `\"`, `\`, `\\`)
)

// number is that of digits, if 32 bits hold it.
func number(digits string) (int, bool) {
	n, err := strconv.ParseUint(digits, 10, 32)
	return int(n), err == nil
}

// literalWanted is what the literal at a text's front says, and what stands behind it; false: there is none.
func literalWanted(text string) (string, string, bool) {
	found := literalForm.FindStringSubmatch(text)
	if found == nil {
		return "", "", false
	}
	rest := text[len(found[0]):]
	n, is := number(found[1])
	if !is || n > len(rest) {
		return "", "", false
	}
	return rest[:n], rest[n:], true
}

// tokensWanted is what Tokens should answer.
func tokensWanted(text string) ([]Token, api.Errno) {
	var all []Token
	for text != "" {
		token, rest := Token{Kind: 1}, text
		if sign := signForm.FindString(text); sign != "" {
			token, rest = Token{Kind: map[string]int{"(": 3, ")": 4, " ": 5}[sign]}, text[1:]
		} else if quoted := strForm.FindString(text); quoted != "" {
			token, rest = Token{2, unquote.Replace(quoted[1 : len(quoted)-1])}, text[len(quoted):]
		} else if told, behind, is := literalWanted(text); is {
			token, rest = Token{2, told}, behind
		} else {
			for {
				_, _, is := literalWanted(rest)
				piece := pieceForm.FindString(rest)
				if is || piece == "" {
					break
				}
				token.Text += piece
				rest = rest[len(piece):]
			}
		}
		if len(rest) == len(text) {
			return nil, api.ErrSyntax
		}
		all, text = append(all, token), rest
	}
	return all, api.OK
}

// checkTokens holds Tokens of a text against what is wanted.
func checkTokens(t *testing.T, text string) {
	t.Helper()
	b := []byte(text)
	want, wrong := tokensWanted(text)
	got, err := Tokens(b)
	if err != wrong || !slices.Equal(got, want) {
		t.Fatalf("Tokens(%.200q) = %s, %d, not %s, %d", text, shown(got), err, shown(want), wrong)
	}
	if string(b) != text {
		t.Fatalf("Tokens(%.200q) changed it into %.200q", text, b)
	}
}

// stringWanted is what String should answer.
func stringWanted(text string) string {
	if plainForm.MatchString(text) {
		return `"` + quote.Replace(text) + `"`
	}
	return strings.Repeat("~", min(strings.Count(text, "\x00"), 1)) + "{" + strconv.Itoa(len(text)) + "}\r\n" + text
}

// checkString holds String, NString and Astring of a text against what is wanted, and reads back what they tell (P18.4).
func checkString(t *testing.T, text string) {
	t.Helper()
	want, kind := stringWanted(text), 2
	if got := String(text); got != want {
		t.Fatalf("String(%.200q) = %.200q, not %.200q", text, got, want)
	}
	if got := NString(text, true); got != want {
		t.Fatalf("NString(%.200q, true) = %.200q, not %.200q", text, got, want)
	}
	if got := NString(text, false); got != "NIL" {
		t.Fatalf("NString(%.200q, false) = %.200q", text, got)
	}
	readBack(t, want, Token{2, text})
	if atomForm.MatchString(text) {
		want, kind = text, 1
	}
	if got := Astring(text); got != want {
		t.Fatalf("Astring(%.200q) = %.200q, not %.200q", text, got, want)
	}
	readBack(t, want, Token{kind, text})
}

// readBack is whether a string that is told is read as it was, by itself and among others, and in a command.
func readBack(t *testing.T, told string, want Token) {
	t.Helper()
	got, err := Tokens([]byte(told))
	if err != api.OK || !slices.Equal(got, []Token{want}) {
		t.Fatalf("Tokens(%.200q) = %s, %d, not %s", told, shown(got), err, shown(want))
	}
	if len(told) > mostLine/2 && want.Kind == 1 {
		// A command's line has no room for it twice.
		return
	}
	var f Framer
	events := f.Feed([]byte("a (" + told + " " + told + ")\r\nb"))
	if len(events) != 1 || events[0].Kind != 2 || f.Left() != 1 {
		t.Fatalf("Feed of a command with %.200q: %s, and %d wait", told, shown(events), f.Left())
	}
	all := []Token{{1, "a"}, {Kind: 5}, {Kind: 3}, want, {Kind: 5}, want, {Kind: 4}}
	if got, err := Tokens(events[0].Bytes); err != api.OK || !slices.Equal(got, all) {
		t.Fatalf("Tokens(%.200q) = %s, %d, not %s", events[0].Bytes, shown(got), err, shown(all))
	}
}

// shown is anything, as far as a message has room for it.
func shown(v any) string { return fmt.Sprintf("%.200q", fmt.Sprint(v)) }

// told is an event, so that it can be held against others.
type told struct {
	kind int
	text string
}

// toldOf are events as such.
func toldOf(events []Event) []told {
	var all []told
	for _, event := range events {
		all = append(all, told{event.Kind, string(event.Bytes)})
	}
	return all
}

// stream is a form of a Framer: what waits, and the places of the command under way that were asked for.
type stream struct {
	wait  string
	asked map[int]bool
}

// feed is what Feed should answer.
func (s *stream) feed(text string) []told {
	s.wait += text
	var all []told
	for {
		event, gone := s.first()
		if event.kind == 0 {
			return all
		}
		if gone > 0 {
			s.asked = nil
		}
		all = append(all, event)
		s.wait = s.wait[gone:]
	}
}

// first is what comes first of all that waits, and how many bytes of it wait no more; of a place that was asked for nothing comes.
func (s *stream) first() (told, int) {
	at, sum := 0, 0
	asks := -1
	for at <= len(s.wait) {
		line := lineForm.FindStringSubmatch(s.wait[at:])
		if line == nil {
			sum += len(s.wait) - at
			at = len(s.wait) + 1
		} else {
			sum += len(line[0])
			at += len(line[0])
		}
		if sum > mostLine {
			return told{kind: 3}, len(s.wait)
		}
		if line == nil {
			break
		}
		head := endForm.FindStringSubmatch(line[1])
		n, is := 0, false
		if head != nil {
			n, is = number(head[1])
		}
		if !is {
			return told{2, s.wait[:at-len(line[0])+len(line[1])]}, at
		}
		if n > mostMessage {
			return told{kind: 3}, len(s.wait)
		}
		if head[2] == "" && at == len(s.wait) {
			asks = at
		}
		at += n
	}
	return s.ask(asks)
}

// ask is a Go for a place, if there is one, that wasn't asked for.
func (s *stream) ask(place int) (told, int) {
	if place < 0 || s.asked[place] {
		return told{}, 0
	}
	if s.asked == nil {
		s.asked = map[int]bool{}
	}
	s.asked[place] = true
	return told{kind: 1}, 0
}

// checkFeed feeds pieces one by one, holds what comes against what is wanted, and tells all of it.
func checkFeed(t *testing.T, pieces ...string) []told {
	t.Helper()
	var f Framer
	var s stream
	var all []told
	for place, piece := range pieces {
		want := s.feed(piece)
		got := toldOf(f.Feed([]byte(piece)))
		if !slices.Equal(got, want) || f.Left() != len(s.wait) {
			t.Fatalf("Feed of piece %d of %.200q: %s, and %d wait, not %s, and %d", place, pieces, shown(got), f.Left(), shown(want), len(s.wait))
		}
		all = append(all, got...)
	}
	return all
}

// commands are those among events; false: something was too great.
func commands(events []told) ([]string, bool) {
	var all []string
	for _, event := range events {
		switch event.kind {
		case 2:
			all = append(all, event.text)
		case 3:
			return nil, false
		}
	}
	return all, true
}

// checkCuts feeds a text in one, byte by byte, and by all the cuts: the same commands come (P18.4), if none is too great.
func checkCuts(t *testing.T, text string, cuts ...[]string) {
	t.Helper()
	want, is := commands(checkFeed(t, text))
	for _, pieces := range append(cuts, strings.Split(text, ""), bytewise(text)) {
		got, again := commands(checkFeed(t, pieces...))
		if is && (!again || !slices.Equal(got, want)) {
			t.Fatalf("commands of %.200q: %.200q; in one: %.200q", pieces, got, want)
		}
	}
}

// bytewise are the bytes of a text, with nothing fed between.
func bytewise(text string) []string {
	var all []string
	for at := range len(text) {
		all = append(all, text[at:at+1], "")
	}
	return all
}

// eachRow tells all rows of at most so many of some things.
func eachRow[T any](most int, of []T, tell func(row []T)) {
	var rows func(row []T)
	rows = func(row []T) {
		tell(row)
		for _, one := range of {
			if len(row) < most {
				rows(append(row[:len(row):len(row)], one))
			}
		}
	}
	rows(nil)
}

// drawn are so many of the pieces, in an order that is the same each time.
func drawn(r *rand.Rand, pieces []string, n int) []string {
	all := make([]string, n)
	for i := range all {
		all[i] = pieces[r.Intn(len(pieces))]
	}
	return all
}
