package structure

import (
	"math/big"
	"math/rand"
	"regexp"
	"strconv"
	"strings"
	"testing"

	"letterbox/api"
	"letterbox/envelope"
	"letterbox/params"
	"letterbox/tree"
	"letterbox/wire"
)

// These are forms of what Kind and Put should answer: a row of letters tells what comes one behind the other, fields are found by regular expressions, and messages are laid of pieces of which is known how they are told.

var (
	plainForm = regexp.MustCompile(`\A[ -~]{0,1000}\z`)
	wordForm  = regexp.MustCompile(`\A(NIL|-?[0-9]+)\z`)
	emptyForm = regexp.MustCompile(`(?m)^\r?\n`)
	quote     = strings.NewReplacer(`"`, `\"`, `\`, `\\`)
)

// fieldForms are how fields are found, by their names.
var fieldForms = func() map[string]*regexp.Regexp {
	forms := map[string]*regexp.Regexp{}
	for _, name := range strings.Fields("type id description transfer-encoding md5 disposition language location") {
		forms["content-"+name] = regexp.MustCompile(`(?mi)^content-` + name + `[ \t]*:([^\n]*(?:\n[ \t][^\n]*)*)`)
	}
	return forms
}()

// parse is the tree of a text.
func parse(t *testing.T, text string) tree.Part {
	t.Helper()
	p, err := tree.Parse([]byte(text))
	if err != api.OK {
		t.Fatalf("Parse(%.60q): %v", text, err)
	}
	return p
}

// span are bytes from one on, below another one.
func span(from, to int) api.Span { return api.Span{From: from, To: to} }

// of is a part of a kind of which all of a text is the header.
func of(kind int, text string) tree.Part {
	return tree.Part{Kind: kind, Head: span(0, len(text)), Body: span(len(text), len(text))}
}

// stringWanted is a text as a string.
func stringWanted(text string) string {
	if plainForm.MatchString(text) {
		return `"` + quote.Replace(text) + `"`
	}
	return strings.Repeat("~", min(strings.Count(text, "\x00"), 1)) + "{" + strconv.Itoa(len(text)) + "}\r\n" + text
}

// piece is what stands between two places; nothing, if one isn't there.
func piece(text string, s api.Span) string {
	if s.From < 0 || s.From > s.To || s.To > len(text) {
		return ""
	}
	return text[s.From:s.To]
}

// linesWanted is how many lines a text has.
func linesWanted(text string) int {
	ends := strings.Count(text, "\n")
	if text != "" && !strings.HasSuffix(text, "\n") {
		ends++
	}
	return ends
}

// fieldWanted is the body of a part's first field of a name; false: there is none.
func fieldWanted(text string, p tree.Part, name string) (string, bool) {
	head := piece(text, p.Head)
	if end := emptyForm.FindStringIndex(head); end != nil {
		head = head[:end[0]]
	}
	at := fieldForms[name].FindStringSubmatchIndex(head)
	if at == nil {
		return "", false
	}
	body := head[at[2]:at[3]]
	if at[3] < len(head) {
		// A line feed stands right behind, so a carriage return is a part of the line's end.
		body = strings.TrimSuffix(body, "\r")
	}
	return strings.Trim(strings.NewReplacer("\r\n", "", "\n", "").Replace(body), " \t"), true
}

// pairsWanted is how parameters should be told.
func pairsWanted(all []params.Param) string {
	told := ""
	for _, p := range all {
		told += " " + stringWanted(p.Name) + " " + stringWanted(p.Value)
	}
	if told == "" {
		return "NIL"
	}
	return "(" + told[1:] + ")"
}

// kindWanted is what Kind should answer.
func kindWanted(text string, p tree.Part) [3]string {
	value, _ := fieldWanted(text, p, "content-type")
	v, goes := params.Parse(value, true)
	own := 0
	switch whole := v.Type + "/" + v.Sub; {
	case strings.HasPrefix(whole, "multipart/"):
		own = 1
	case whole == "message/rfc822":
		own = 2
	}
	kind := p.Kind
	if kind != 1 && kind != 2 {
		kind = 0
	}
	if goes && own == kind {
		return [3]string{v.Type, v.Sub, pairsWanted(v.Params)}
	}
	if goes && kind == 0 {
		return [3]string{"application", "octet-stream", "NIL"}
	}
	return [][3]string{{"text", "plain", `("charset" "us-ascii")`}, {"multipart", "mixed", "NIL"}, {"message", "rfc822", "NIL"}}[kind]
}

// lengthWanted is how long a body is: 64 bits hold all that an int does.
func lengthWanted(s api.Span) string {
	n := new(big.Int).Sub(big.NewInt(int64(s.To)), big.NewInt(int64(s.From)))
	around := new(big.Int).Lsh(big.NewInt(1), 64)
	half := new(big.Int).Lsh(big.NewInt(1), 63)
	switch {
	case n.Cmp(half) >= 0:
		n.Sub(n, around)
	case n.Cmp(new(big.Int).Neg(half)) < 0:
		n.Add(n, around)
	}
	return n.String()
}

// putWanted is what Put should answer. Each letter of the form stands for something that is told.
func putWanted(text string, p tree.Part, all bool) string {
	kind := kindWanted(text, p)
	form := "t s p i d e n"
	switch {
	case p.Kind == 1:
		form = "k s"
	case p.Kind == 2 && len(p.Kids) > 0:
		form += " v o l"
	case kind[0] == "text":
		form += " l"
	}
	if all && p.Kind == 1 {
		form += " p D L O"
	} else if all {
		form += " m D L O"
	}
	told := ""
	for _, letter := range strings.Fields(form) {
		told += " " + letterWanted(text, p, all, letter, kind)
	}
	return "(" + told[1:] + ")"
}

// letterWanted is what a letter of a form stands for.
func letterWanted(text string, p tree.Part, all bool, letter string, kind [3]string) string {
	fields := map[string]string{"i": "content-id", "d": "content-description", "m": "content-md5", "L": "content-language", "O": "content-location"}
	if name, is := fields[letter]; is {
		if body, is := fieldWanted(text, p, name); is {
			return stringWanted(body)
		}
		return "NIL"
	}
	switch letter {
	case "k":
		told := ""
		for _, kid := range p.Kids {
			told += putWanted(text, kid, all)
		}
		return told
	case "t":
		return stringWanted(kind[0])
	case "s":
		return stringWanted(kind[1])
	case "p":
		return kind[2]
	case "e":
		return stringWanted(encodingWanted(text, p))
	case "n":
		return lengthWanted(p.Body)
	case "v":
		return envelope.Put(envelope.Of([]byte(text), p.Kids[0]))
	case "o":
		return putWanted(text, p.Kids[0], all)
	case "l":
		return strconv.Itoa(linesWanted(piece(text, p.Body)))
	}
	body, _ := fieldWanted(text, p, "content-disposition")
	v, goes := params.Parse(body, false)
	if !goes {
		return "NIL"
	}
	return "(" + stringWanted(v.Type) + " " + pairsWanted(v.Params) + ")"
}

// encodingWanted is a part's transfer encoding.
func encodingWanted(text string, p tree.Part) string {
	body, _ := fieldWanted(text, p, "content-transfer-encoding")
	if body == "" {
		return "7bit"
	}
	all := []byte(body)
	for i, c := range all {
		if 'A' <= c && c <= 'Z' {
			all[i] = c | 32
		}
	}
	return string(all)
}

// check holds Kind and Put of a part against what is wanted, and reads back what is put.
func check(t *testing.T, text string, p tree.Part) {
	t.Helper()
	b := []byte(text)
	var kind [3]string
	kind[0], kind[1], kind[2] = Kind(b, p)
	if want := kindWanted(text, p); kind != want {
		t.Fatalf("Kind(%.300q, %v) = %q, not %q", text, p, kind, want)
	}
	for _, all := range []bool{false, true} {
		checkPut(t, text, p, all, putWanted(text, p, all))
	}
	if string(b) != text {
		t.Fatalf("Kind(%.300q, %v) changed it into %.300q", text, p, b)
	}
}

// checkPut holds Put of a part against what is wanted, and reads it back (P20.3).
func checkPut(t *testing.T, text string, p tree.Part, all bool, want string) {
	t.Helper()
	b := []byte(text)
	got := Put(b, p, all)
	if got != want {
		t.Fatalf("Put(%.600q, %v, %v)\nis  %.900q\nnot %.900q", text, p, all, got, want)
	}
	if string(b) != text {
		t.Fatalf("Put(%.300q, %v, %v) changed it into %.300q", text, p, all, b)
	}
	if wrong := unclosed(got); wrong != "" {
		t.Fatalf("Put(%.300q, %v, %v) = %.600q: %s", text, p, all, got, wrong)
	}
}

// unclosed is what is wrong with a text that should be tokens in brackets that close; nothing, if it is that.
func unclosed(text string) string {
	tokens, err := wire.Tokens([]byte(text))
	if err != api.OK {
		return err.Error()
	}
	open := 0
	var again strings.Builder
	for place, token := range tokens {
		switch token.Kind {
		case wire.Open:
			open++
			again.WriteString("(")
		case wire.Close:
			open--
			again.WriteString(")")
		case wire.Space:
			again.WriteString(" ")
		case wire.Str:
			again.WriteString(stringWanted(token.Text))
		default:
			if !wordForm.MatchString(token.Text) {
				return "the word " + token.Text
			}
			again.WriteString(token.Text)
		}
		if (open == 0) != (place == len(tokens)-1) {
			return "brackets close too early, or don't"
		}
	}
	if again.String() != text {
		return "read back as " + again.String()
	}
	return ""
}

// drawn is one of some things.
func drawn[T any](r *rand.Rand, all ...T) T { return all[r.Intn(len(all))] }

// eachRow tells all rows of at most so many of some things.
func eachRow[T any](most int, of []T, tell func(row []T)) {
	var rows func(row []T)
	rows = func(row []T) {
		tell(row)
		for _, one := range of {
			if len(row) < most {
				rows(append(row[:len(row):len(row)], one))
			}
		}
	}
	rows(nil)
}
