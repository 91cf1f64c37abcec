package section

import (
	"fmt"
	"math/rand"
	"reflect"
	"regexp"
	"slices"
	"strconv"
	"strings"
	"testing"

	"letterbox/api"
)

// These are forms of what Check, Parse and Put should answer: of texts a regular expression, of specs a list of faults.

const (
	greatest = 1<<32 - 1

	numberForm = `(?:0|[1-9][0-9]*)`
	nameForm   = "(?:[!#$&'+-Z[^-z|}~]+" + `|"(?:[ !#-\[\]-~]|\\["\\])*")`
)

var (
	specForm = regexp.MustCompile(`\A\[(` + numberForm + `(?:\.` + numberForm + `)*)?(\.)?(` + wordForm("HEADER|HEADER.FIELDS|HEADER.FIELDS.NOT|TEXT|MIME") + `)?` +
		`(?: \((` + nameForm + `(?: ` + nameForm + `)*)\))?\](?:<(` + numberForm + `)\.(` + numberForm + `)>)?\z`)
	oneForm   = regexp.MustCompile(nameForm)
	plainForm = regexp.MustCompile("\\A[!#$&'+-Z[^-z|}~]+\\z")
	wrongForm = regexp.MustCompile(`[^ -~]`)
	signForm  = regexp.MustCompile(`["\\]`)
)

// whats are what words ask for.
var whats = map[string]int{"": 0, "HEADER": 1, "HEADER.FIELDS": 2, "HEADER.FIELDS.NOT": 3, "TEXT": 4, "MIME": 5}

// wordForm is the form of words of ASCII: a form's own way with small and capital letters takes others for these, too.
func wordForm(words string) string {
	var form strings.Builder
	for _, c := range strings.ReplaceAll(words, ".", `\.`) {
		if c >= 'A' && c <= 'Z' {
			form.WriteString("[" + string(c) + string(c+32) + "]")
		} else {
			form.WriteRune(c)
		}
	}
	return form.String()
}

// numbers are those of texts.
func numbers(texts []string) []int {
	var all []int
	for _, text := range texts {
		n, err := strconv.ParseUint(text, 10, 62)
		if err != nil {
			n = 1 << 62
		}
		all = append(all, int(n))
	}
	return all
}

// faults is how many things a spec has that may not be.
func faults(s Spec) int {
	n := 0
	count := func(is bool) {
		if is {
			n++
		}
	}
	count(len(s.Path) > 64)
	for _, number := range s.Path {
		count(number < 1 || number > greatest)
	}
	count(s.What < 0 || s.What > 5)
	count(s.What == 5 && len(s.Path) == 0)
	count((s.What == 2 || s.What == 3) && (len(s.Names) < 1 || len(s.Names) > 100))
	count(s.What != 2 && s.What != 3 && len(s.Names) > 0)
	for _, name := range s.Names {
		count(wrongForm.MatchString(name))
	}
	count(!s.Cut && (s.From != 0 || s.Many != 0))
	count(s.Cut && (s.From < 0 || s.From > greatest || s.Many < 1 || s.Many > greatest))
	return n
}

// wanted is what Parse should answer, by forms.
func wanted(text string) (Spec, api.Errno) {
	found := specForm.FindStringSubmatch(text)
	if found == nil || (found[1] != "" && found[3] != "") != (found[2] != "") {
		return Spec{}, api.ErrSyntax
	}
	s := Spec{What: whats[strings.ToUpper(found[3])]}
	if found[1] != "" {
		s.Path = numbers(strings.Split(found[1], "."))
	}
	for _, name := range oneForm.FindAllString(found[4], -1) {
		if name[0] == '"' {
			name = strings.NewReplacer(`\"`, `"`, `\\`, `\`).Replace(name[1 : len(name)-1])
		}
		s.Names = append(s.Names, name)
	}
	if found[5] != "" {
		cut := numbers(found[5:])
		s.Cut, s.From, s.Many = true, cut[0], cut[1]
	}
	if faults(s) > 0 {
		return Spec{}, api.ErrSyntax
	}
	return s, api.OK
}

// wantedText is what Put should answer.
func wantedText(s Spec, answer bool) string {
	if faults(s) > 0 {
		return ""
	}
	var words []string
	for word, what := range whats {
		if what == s.What {
			words = []string{word}
		}
	}
	for _, n := range slices.Backward(s.Path) {
		words = append([]string{strconv.Itoa(n)}, words...)
	}
	text := "[" + strings.TrimSuffix(strings.Join(words, "."), ".")
	for place, name := range s.Names {
		if !plainForm.MatchString(name) {
			name = `"` + signForm.ReplaceAllString(name, `\$0`) + `"`
		}
		text += []string{" ", " ("}[1-min(place, 1)] + name
	}
	if len(s.Names) > 0 {
		text += ")"
	}
	text += "]"
	switch {
	case s.Cut && answer:
		text += fmt.Sprintf("<%d>", s.From)
	case s.Cut:
		text += fmt.Sprintf("<%d.%d>", s.From, s.Many)
	}
	return text
}

// same tells whether two specs are; nil and empty lists are one.
func same(a, b Spec) bool {
	return slices.Equal(a.Path, b.Path) && slices.Equal(a.Names, b.Names) && a.What == b.What && a.Cut == b.Cut && a.From == b.From && a.Many == b.Many
}

// checkParse holds Parse of a text against what is wanted, and what is parsed against what is put of it.
func checkParse(t *testing.T, text string) {
	t.Helper()
	want, wantErr := wanted(text)
	got, err := Parse(text)
	if err != wantErr || !same(got, want) || err != api.OK && !reflect.DeepEqual(got, Spec{}) {
		t.Fatalf("Parse(%.200q) = %+v, %d, not %+v, %d", text, got, err, want, wantErr)
	}
	if err != api.OK {
		return
	}
	if Check(got) != api.OK {
		t.Fatalf("Parse(%.200q) = %+v, that may not be", text, got)
	}
	if again := wantedText(got, false); !strings.Contains(text, `"`) && !strings.EqualFold(again, text) {
		t.Fatalf("Parse(%.200q) = %+v, whose text is %.200q", text, got, again)
	}
	checkSpec(t, got)
}

// checkSpec holds Check and Put of a spec against what is wanted, and what is put, if something is, against what is parsed of it (P15.3).
func checkSpec(t *testing.T, s Spec) {
	t.Helper()
	want := api.OK
	if faults(s) > 0 {
		want = api.ErrArg
	}
	if got := Check(s); got != want {
		t.Fatalf("Check(%+v) = %d, not %d", s, got, want)
	}
	for _, answer := range []bool{false, true} {
		if got, want := Put(s, answer), wantedText(s, answer); got != want {
			t.Fatalf("Put(%+v, %t) = %q, not %q", s, answer, got, want)
		}
	}
	got, err := Parse(Put(s, false))
	if want == api.OK && (err != api.OK || !same(got, s)) {
		t.Fatalf("Parse(%q) = %+v, %d, not %+v", Put(s, false), got, err, s)
	}
	if want != api.OK && err != api.ErrSyntax {
		t.Fatalf("Parse of nothing: %d", err)
	}
}

// texts are all texts of at most so many of the pieces.
func texts(pieces []string, most int) []string {
	all := []string{""}
	from := 0
	for range most {
		to := len(all)
		for _, text := range all[from:to] {
			for _, piece := range pieces {
				all = append(all, text+piece)
			}
		}
		from = to
	}
	return all
}

// nearly calls check with a text, and with all that are it but for a byte that is another, more, or missing, or for two that are turned round, and with all that it begins and ends with.
func nearly(t *testing.T, text string, check func(*testing.T, string)) {
	t.Helper()
	check(t, text)
	for at := range len(text) + 1 {
		for i := range 256 {
			c := string([]byte{byte(i)})
			check(t, text[:at]+c+text[at:])
			if at < len(text) {
				check(t, text[:at]+c+text[at+1:])
			}
		}
		check(t, text[:at])
		check(t, text[at:])
		if at < len(text) {
			check(t, text[:at]+text[at+1:])
		}
		if at+1 < len(text) {
			check(t, text[:at]+text[at+1:at+2]+text[at:at+1]+text[at+2:])
		}
	}
}

// ones are n of a number.
func ones(n, number int) []int { return slices.Repeat([]int{number}, n) }

// names are n of a name.
func names(n int, name string) []string { return slices.Repeat([]string{name}, n) }

// drawn is a text of so many of the pieces, in an order that is the same each time.
func drawn(r *rand.Rand, pieces []string, n int) string {
	var text strings.Builder
	for range n {
		text.WriteString(pieces[r.Intn(len(pieces))])
	}
	return text.String()
}
