package params

import (
	"encoding/hex"
	"regexp"
	"slices"
	"strconv"
	"strings"
	"testing"
)

// allBytes are the bytes 0 to 255, in order.
func allBytes() string {
	all := make([]byte, 256)
	for i := range all {
		all[i] = byte(i)
	}
	return string(all)
}

// mixed are n bytes that don't repeat soon, with many parameters among them.
func mixed(n int) string {
	var b strings.Builder
	pieces := []string{"; a=b", ";a*1*=%41%", " (c\\)) ;\tA*0=\"x\\\"\"", ";b*=u'v'%2", "; c=d", ";a=\xff", "(", ";D*0*='e'%41;d*1=%42"}
	state := uint32(n) + 1
	for b.Len() < n {
		state = state*1664525 + 1013904223
		b.WriteString(pieces[state>>24%uint32(len(pieces))])
	}
	return b.String()[:n]
}

// texts are all texts of at most so many of the pieces.
func texts(pieces []string, most int) []string {
	all := []string{""}
	from := 0
	for range most {
		to := len(all)
		for _, text := range all[from:to] {
			for _, piece := range pieces {
				all = append(all, text+piece)
			}
		}
		from = to
	}
	return all
}

// skipForm is the form of what is skipped, with comments of at most so many within each other.
func skipForm(deep int) string {
	comment := `\(`
	for range deep {
		comment = `\((?:[^()\\]|\\(?s:.)|` + comment + `)*(?:\)|\\?\z)`
	}
	return `(?:[\t ]|` + comment + `)*`
}

const (
	tokenForm  = `[!#$%&'*+.0-9A-Z^_\x60a-z{|}~-]+`
	quotedForm = `"(?:[^"\\]|\\(?s:.))*"`
)

var (
	typeForm  = regexp.MustCompile(`\A` + skipForm(8) + `(` + tokenForm + `)`)
	subForm   = regexp.MustCompile(`\A` + skipForm(8) + `/` + skipForm(8) + `(` + tokenForm + `)`)
	paramForm = regexp.MustCompile(`\A` + skipForm(8) + `;` + skipForm(8) + `(` + tokenForm + `)` + skipForm(8) +
		`=` + skipForm(8) + `(` + tokenForm + `|` + quotedForm + `)`)
	pairForm  = regexp.MustCompile(`\\((?s:.))`)
	frontForm = regexp.MustCompile(`\A[^']*'[^']*'`)
	codeForm  = regexp.MustCompile(`%[0-9A-Fa-f]{2}`)
)

// small is a text with small letters, but for those beyond ASCII.
func small(s string) string {
	b := []byte(s)
	for i, c := range b {
		if strings.IndexByte("ABCDEFGHIJKLMNOPQRSTUVWXYZ", c) >= 0 {
			b[i] = c + 32
		}
	}
	return string(b)
}

// cut is what a form takes from a text's front in its last group, and in the one ahead, and the text behind it.
func cut(form *regexp.Regexp, s string) (groups []string, left string, is bool) {
	groups = form.FindStringSubmatch(s)
	if groups == nil {
		return nil, s, false
	}
	return groups[1:], s[len(groups[0]):], true
}

// wanted is what Parse should answer, by forms.
func wanted(s string, two bool) (Value, bool) {
	var v Value
	groups, s, is := cut(typeForm, s)
	if !is {
		return Value{}, false
	}
	v.Type = small(groups[0])
	if two {
		if groups, s, is = cut(subForm, s); !is {
			return Value{}, false
		}
		v.Sub = small(groups[0])
	}
	var stand []Param
	for {
		if groups, s, is = cut(paramForm, s); !is {
			break
		}
		value := groups[1]
		if value[0] == '"' {
			value = pairForm.ReplaceAllString(value[1:len(value)-1], "$1")
		}
		stand = append(stand, Param{small(groups[0]), value})
	}
	v.Params = wantedParams(stand)
	return v, true
}

// wantedParams are the parameters that others tell of.
func wantedParams(stand []Param) []Param {
	var all []Param
	for place, p := range stand {
		base := strings.SplitN(p.Name, "*", 2)[0]
		isOf := func(p Param) bool { return strings.SplitN(p.Name, "*", 2)[0] == base }
		if base == "" || slices.ContainsFunc(stand[:place], isOf) {
			continue
		}
		ends := map[string]string{}
		for _, p := range slices.Backward(stand) {
			if isOf(p) {
				ends[p.Name[len(base):]] = p.Value
			}
		}
		if value, is := wantedValue(ends); is {
			all = append(all, Param{base, value})
		}
	}
	return all
}

// wantedValue is a base's, by what stands behind it in the names; false: it has none.
func wantedValue(ends map[string]string) (string, bool) {
	if value, is := ends[""]; is {
		return value, true
	}
	if value, is := ends["*"]; is {
		return wantedOpen(frontForm.ReplaceAllString(value, "")), true
	}
	value := ""
	for n := 0; ; n++ {
		number := "*" + strconv.Itoa(n)
		piece, is := ends[number]
		if !is {
			if piece, is = ends[number+"*"]; !is {
				return value, n != 0
			}
			if n == 0 {
				piece = frontForm.ReplaceAllString(piece, "")
			}
			piece = wantedOpen(piece)
		}
		value += piece
	}
}

// wantedOpen is a text opened.
func wantedOpen(s string) string {
	return codeForm.ReplaceAllStringFunc(s, func(code string) string {
		b, err := hex.DecodeString(code[1:])
		if err != nil {
			panic(err)
		}
		return string(b)
	})
}

// same tells whether two values are.
func same(a, b Value) bool {
	return a.Type == b.Type && a.Sub == b.Sub && slices.Equal(a.Params, b.Params)
}

// check holds Parse of a text against what is wanted, and what follows.
func check(t *testing.T, s string) {
	t.Helper()
	for _, two := range []bool{false, true} {
		want, wantIs := wanted(s, two)
		got, is := Parse(s, two)
		if !same(got, want) || is != wantIs {
			t.Fatalf("Parse(%q, %t) = %q, %t, not %q, %t", s, two, got, is, want, wantIs)
		}
		names := map[string]bool{}
		for _, p := range got.Params {
			if names[p.Name] || p.Name == "" || strings.Contains(p.Name, "*") || p.Name != small(p.Name) {
				t.Fatalf("Parse(%q, %t): parameters %q", s, two, got.Params)
			}
			names[p.Name] = true
		}
	}
}

// P7.1: a type of one part.
func TestParseOne(t *testing.T) {
	for _, c := range []struct{ text, want string }{
		{"attachment", "attachment"},
		{"INLINE", "inline"},
		{"a/b", "a"},
		{" \t a", "a"},
		{"(c)a(d)", "a"},
		{"a b", "a"},
		{"a@b", "a"},
		{"a\"b\"", "a"},
		{"a;", "a"},
		{"a\x00", "a"},
		{"A\xc3\x84", "a"},
		{"!#$%&'*+-.^_`{|}~09", "!#$%&'*+-.^_`{|}~09"},
	} {
		got, is := Parse(c.text, false)
		if !same(got, Value{Type: c.want}) || !is {
			t.Errorf("Parse(%q) = %q, %t", c.text, got, is)
		}
	}
}

// P7.1: a type of two parts.
func TestParseTwo(t *testing.T) {
	for _, c := range []struct{ text, kind, sub string }{
		{"text/plain", "text", "plain"},
		{"TEXT/Plain", "text", "plain"},
		{"text/plain/x", "text", "plain"},
		{"text/plain x; a=b", "text", "plain"},
		{" text / plain ", "text", "plain"},
		{"(a) text\t(b)(c) / (/d) plain(e)", "text", "plain"},
		{"1/2", "1", "2"},
		{"*/*", "*", "*"},
	} {
		got, is := Parse(c.text, true)
		if !same(got, Value{Type: c.kind, Sub: c.sub}) || !is {
			t.Errorf("Parse(%q) = %q, %t", c.text, got, is)
		}
	}
}

// P7.1: texts without a type have no value at all, whatever else is in them.
func TestParseNone(t *testing.T) {
	for _, c := range []struct {
		text     string
		one, two bool
	}{
		{"", false, false},
		{" ", false, false},
		{"(a", false, false},
		{"(a)", false, false},
		{"/b", false, false},
		{"; a=b", false, false},
		{"=a; a=b", false, false},
		{"\"a\"/b", false, false},
		{"\\a/b", false, false},
		{"\r\na/b", false, false},
		{"\x00a/b", false, false},
		{"\x7fa/b", false, false},
		{"\xc3\x84/b", false, false},
		{"a", true, false},
		{"a/", true, false},
		{"a/ ", true, false},
		{"a(/b", true, false},
		{"a(/b)", true, false},
		{"a/(b", true, false},
		{"a b/c; d=e", true, false},
		{"a//c; d=e", true, false},
		{"a;b/c; d=e", true, false},
		{"a/;d=e", true, false},
		{"a/\"b\"; d=e", true, false},
		{"a\\/b; d=e", true, false},
		{"a/\nb; d=e", true, false},
	} {
		if got, is := Parse(c.text, false); is != c.one || !is && !same(got, Value{}) {
			t.Errorf("Parse(%q, false) = %q, %t", c.text, got, is)
		}
		if got, is := Parse(c.text, true); is != c.two || !is && !same(got, Value{}) {
			t.Errorf("Parse(%q, true) = %q, %t", c.text, got, is)
		}
	}
}

// of are the parameters of a text that stands behind a type.
func of(t *testing.T, text string) []Param {
	t.Helper()
	one, isOne := Parse("a"+text, false)
	two, isTwo := Parse("a/b"+text, true)
	if !isOne || !isTwo || !slices.Equal(one.Params, two.Params) || one.Type != "a" || two.Type != "a" || one.Sub != "" || two.Sub != "b" {
		t.Fatalf("Parse of %q: %q, %t, %q, %t", text, one, isOne, two, isTwo)
	}
	return two.Params
}

// ofText is what stands behind a type, and the parameters that it should tell, by name and value in turn.
type ofText struct {
	text string
	want []string
}

// checkTexts holds the parameters of texts against what is wanted.
func checkTexts(t *testing.T, all []ofText) {
	t.Helper()
	for _, c := range all {
		var want []Param
		for pair := range slices.Chunk(c.want, 2) {
			want = append(want, Param{pair[0], pair[1]})
		}
		if got := of(t, c.text); !slices.Equal(got, want) {
			t.Errorf("parameters of %q: %q, not %q", c.text, got, want)
		}
	}
}

// P7.1: parameters, as long as it goes.
func TestParams(t *testing.T) {
	checkTexts(t, []ofText{
		{"", nil},
		{";a=b", []string{"a", "b"}},
		{"; a=b; c=d", []string{"a", "b", "c", "d"}},
		{"; CHARSET=UTF-8", []string{"charset", "UTF-8"}},
		{"\t;\ta\t=\tb\t;c=d\t", []string{"a", "b", "c", "d"}},
		{"(x);(x)a(x)=(x)b(x);(x)c(x)=(x)\"d\"(x)", []string{"a", "b", "c", "d"}},
		{"; charset=\"a b\"; x*1=c; x*0*=''%41", []string{"charset", "a b", "x", "Ac"}},
		{";a=b;", []string{"a", "b"}},
		{";a=b;c=d;;e=f", []string{"a", "b", "c", "d"}},
		{";;a=b", nil},
		{" a=b", nil},
		{",a=b", nil},
		{";a", nil},
		{";a=", nil},
		{";a=;b=c", nil},
		{";=a;b=c", nil},
		{";a b=c;d=e", nil},
		{";a==b;c=d", nil},
		{";\"a\"=b;c=d", nil},
		{";a=b;c;d=e", []string{"a", "b"}},
		{";a=b;c=;d=e", []string{"a", "b"}},
		{";a=b c;d=e", []string{"a", "b"}},
		{";a=b c=d;e=f", []string{"a", "b"}},
		{";a=b/c;d=e", []string{"a", "b"}},
		{";a=b\"c\";d=e", []string{"a", "b"}},
		{";a=\"b\"c;d=e", []string{"a", "b"}},
		{";a=\"b\"\"c\";d=e", []string{"a", "b"}},
		{";a=b\r\n;c=d", []string{"a", "b"}},
		{";a=b;\nc=d", []string{"a", "b"}},
		{";a=\r\nb;c=d", nil},
		{";a=b;c=\x00;d=e", []string{"a", "b"}},
		{";a=\xff", nil},
		{";a=b\xff;c=d", []string{"a", "b"}},
		{";\xc3\x84=b", nil},
		{";a/b=c", nil},
		{";a=b;c=d(", []string{"a", "b", "c", "d"}},
		{";a=b;c(=d", []string{"a", "b"}},
	})
}

// P7.1: what is skipped: comments, comments in them, bytes behind a \, and what isn't ended.
func TestSkipped(t *testing.T) {
	checkTexts(t, []ofText{
		{"();a=b", []string{"a", "b"}},
		{"()();a=b", []string{"a", "b"}},
		{"(())(;a=c);a=b", []string{"a", "b"}},
		{"(x(y)z;a=c);a=b", []string{"a", "b"}},
		{"(x(y(z)));a=b", []string{"a", "b"}},
		{"((x)(y)z);a=b", []string{"a", "b"}},
		{"(x(y);a=b", nil},
		{"((x);a=b", nil},
		{"(;a=b", nil},
		{");a=b", nil},
		{"();a=b);c=d", []string{"a", "b"}},
		{"(\\));a=b", []string{"a", "b"}},
		{"(\\();a=b", []string{"a", "b"}},
		{"(\\\\);a=b", []string{"a", "b"}},
		{"(\\\\\\);a=b", nil},
		{"(\\)", nil},
		{"(\\", nil},
		{"(", nil},
		{"\\(;a=b", nil},
		{"(\");a=b", []string{"a", "b"}},
		{"(\"\\\");a=b", []string{"a", "b"}},
		{"(\");\");a=b", nil},
		{"(\xff\x00\r\n);a=b", []string{"a", "b"}},
		{"(\\\xff\\\xc3\x84);a=b", []string{"a", "b"}},
		{";a=(b)", nil},
		{";a=(b)c", []string{"a", "c"}},
		{";a=b(c", []string{"a", "b"}},
		{";a=b(c;d=e", []string{"a", "b"}},
		{";a=b(c\\", []string{"a", "b"}},
	})
}

// P7.1: quoted texts.
func TestQuotedValue(t *testing.T) {
	checkTexts(t, []ofText{
		{";a=\"\"", []string{"a", ""}},
		{";a=\" b \"", []string{"a", " b "}},
		{";a=\"b;c=d\";e=f", []string{"a", "b;c=d", "e", "f"}},
		{";a=\"(b\";c=d", []string{"a", "(b", "c", "d"}},
		{";a=\"\\\"\"", []string{"a", "\""}},
		{";a=\"\\\\\";b=c", []string{"a", "\\", "b", "c"}},
		{";a=\"\\b\\ \\\\\\\"\\(\"", []string{"a", "b \\\"("}},
		{";a=\"\r\n\x00\xff\"", []string{"a", "\r\n\x00\xff"}},
		{";a=\"\\\xc3\\\x84\\\n\"", []string{"a", "\xc3\x84\n"}},
		{";a=\"B\"", []string{"a", "B"}},
		{";a=\"%41\"", []string{"a", "%41"}},
		// Without its end it is none, and the parameter isn't there.
		{";a=\"", nil},
		{";a=\"b", nil},
		{";a=\"\\", nil},
		{";a=\"\\\"", nil},
		{";a=\"b\\\"", nil},
		{";a=\"b\\\\\\\"", nil},
		{";a=b;c=\"d", []string{"a", "b"}},
		{";a=b;c=\"d;e=f", []string{"a", "b"}},
	})
}

// P7.2: of each base one parameter, in the order in which bases come first.
func TestBases(t *testing.T) {
	checkTexts(t, []ofText{
		{";a=1;a=2", []string{"a", "1"}},
		{";a=1;A=2", []string{"a", "1"}},
		{";A=1;a=2", []string{"a", "1"}},
		{";b=1;a=2;b=3", []string{"b", "1", "a", "2"}},
		{";a*=1;b=2;a=3", []string{"a", "3", "b", "2"}},
		{";a*1=1;b=2;a*0=3", []string{"a", "31", "b", "2"}},
		{";a*x=1;b=2;a=3", []string{"a", "3", "b", "2"}},
		{";a*0*0=1;b=2;a=3", []string{"a", "3", "b", "2"}},
		{";B*=1;A*=2;b*0=3;a=4", []string{"b", "1", "a", "4"}},
		// The very name is ahead of the name with *, and this of numbers, whichever comes first.
		{";a*0=1;a*=2;a=3", []string{"a", "3"}},
		{";a*0=1;a*=2", []string{"a", "2"}},
		{";a=\"\";a*=2", []string{"a", ""}},
		{";a*=\"\";a*0=2", []string{"a", ""}},
		{";a*=1;a*=2", []string{"a", "1"}},
		{";a=%41''", []string{"a", "%41''"}},
		// A base without bytes counts for nothing, and one that tells nothing has no parameter.
		{";*=1", nil},
		{";*0=1", nil},
		{";**=1", nil},
		{";*a=1;b=2", []string{"b", "2"}},
		{";a**=1", nil},
		{";a*x=1;b=2", []string{"b", "2"}},
		{";a*1=1;b=2", []string{"b", "2"}},
		{";a*1*=1;a*2=2;b=3", []string{"b", "3"}},
		{";a**=1;a*=2", []string{"a", "2"}},
		// Bases are whole names, up to a *.
		{";ab*0=1;a*0=2;abc=3", []string{"ab", "1", "a", "2", "abc", "3"}},
		{";a0=1;a=2;a*0=3", []string{"a0", "1", "a", "2"}},
	})
}

// P7.2: values of pieces, by their numbers.
func TestPieces(t *testing.T) {
	checkTexts(t, []ofText{
		{";a*0=1", []string{"a", "1"}},
		{";a*0=1;a*1=2;a*2=3", []string{"a", "123"}},
		{";a*2=3;a*1=2;a*0=1", []string{"a", "123"}},
		{";a*0=1;a*2=3", []string{"a", "1"}},
		{";a*0=1;a*1=2;a*3=4;a*4=5", []string{"a", "12"}},
		{";a*0=1;a*0=2;a*1=3;a*1=4", []string{"a", "13"}},
		{";a*0=\"\";a*1=\"\"", []string{"a", ""}},
		{";a*0=\"\";a*1=2", []string{"a", "2"}},
		{";a*0=1;b*0=2;a*1=3;b*1=4", []string{"a", "13", "b", "24"}},
		{";A*0=1;a*1=2", []string{"a", "12"}},
		// Numbers have no noughts ahead, and are digits.
		{";a*00=1", nil},
		{";a*00=1;a*1=2", nil},
		{";a*0=1;a*01=2", []string{"a", "1"}},
		{";a*0=1;a*+1=2;a*-1=3;a*1x=4", []string{"a", "1"}},
		{";a*0=0;a*1=1;a*2=2;a*3=3;a*4=4;a*5=5;a*6=6;a*7=7;a*8=8;a*9=9;a*10=A;a*11=B;a*13=D", []string{"a", "0123456789AB"}},
		// A * more opens a piece, if it isn't there without.
		{";a*0=%41;a*1*=%42;a*2=%43", []string{"a", "%41B%43"}},
		{";a*0*=%41;a*0=x", []string{"a", "x"}},
		{";a*0=1;a*1*=%41;a*1=y", []string{"a", "1y"}},
		{";a*0*=1;a*0*=2", []string{"a", "1"}},
		{";a*0**=1", nil},
		{";a*0=1;a*1**=2", []string{"a", "1"}},
		{";a**0=1", nil},
		// What stands up to the second ' goes from the first piece alone, and just where it is opened.
		{";a*0*=u'v'%41;a*1*=w'x'%42", []string{"a", "Aw'x'B"}},
		{";a*0=u'v'%41;a*1*=w'x'%42", []string{"a", "u'v'%41w'x'B"}},
		{";a*0*='';a*1=b", []string{"a", "b"}},
		{";a*0*=u'%41;a*1*='%42", []string{"a", "u'A'B"}},
		// Each piece is opened by itself.
		{";a*0*=%4;a*1*=1", []string{"a", "%41"}},
		{";a*0*=%;a*1*=41", []string{"a", "%41"}},
		{";a*0*=u'v';a*1=%41;a*2*=%41", []string{"a", "%41A"}},
	})
}

// P7.2: values that are opened.
func TestOpened(t *testing.T) {
	for _, c := range []struct{ value, want string }{
		{"", ""},
		{"b", "b"},
		{"utf-8''%41", "A"},
		{"utf-8'en'a%20b", "a b"},
		{"''", ""},
		{"'", "'"},
		{"'b", "'b"},
		{"u'%41", "u'A"},
		{"'''", "'"},
		{"u'v'w'x'y", "w'x'y"},
		{"%27%27%41", "''A"},
		{"u%27'v'%41", "A"},
		{"u'v'%27%41'", "'A'"},
		{"%41%4a%4A%fF%00", "AJJ\xff\x00"},
		{"%", "%"},
		{"%%", "%%"},
		{"%4", "%4"},
		{"%%41", "%A"},
		{"%4%41", "%4A"},
		{"%2541", "%41"},
		{"%4g%g4%GG", "%4g%g4%GG"},
		{"%+1%-1%_1%4_%0x", "%+1%-1%_1%4_%0x"},
		{"%41''", ""},
		{"41", "41"},
		{"b%", "b%"},
		{"b%4", "b%4"},
		{"% 4%4 %\t1", "% 4%4 %\t1"},
		{"\xff%\xff\xff%41", "\xff%\xff\xffA"},
		{"%C3%84", "\xc3\x84"},
	} {
		for _, name := range []string{"a*", "a*0*"} {
			checkTexts(t, []ofText{{";" + name + "=" + Quoted(c.value), []string{"a", c.want}}})
		}
		checkTexts(t, []ofText{{";a=" + Quoted(c.value), []string{"a", c.value}}})
	}
}

// P7.2: of all two bytes behind a %, which are two digits.
func TestEachCode(t *testing.T) {
	for i := range 1 << 16 {
		code := "%" + string([]byte{byte(i >> 8), byte(i)})
		want := code
		if codeForm.MatchString(code) {
			want = wantedOpen(code)
		}
		if code[1] == '\'' && code[2] == '\'' {
			want = ""
		}
		if got := of(t, ";a*="+Quoted(code)); len(got) != 1 || got[0] != (Param{"a", want}) {
			t.Fatalf("%q opened: %q", code, got)
		}
	}
}

// P7.1, P7.4: all short texts of bytes that matter, of themselves and behind a parameter's beginning.
func TestAllShort(t *testing.T) {
	for _, text := range texts([]string{";", "=", "a", "*", "\"", "\\", "(", ")", "/", " "}, 5) {
		for _, front := range []string{"", "t/s;b=c;x", "t/s;x="} {
			check(t, front+text)
		}
	}
	for _, text := range texts([]string{"(", ")", "\\", "\"", ";x=y"}, 7) {
		check(t, "t/s"+text)
	}
}

// P7.2, P7.4: all short lists of parameters of a few names.
func TestAllLists(t *testing.T) {
	names := []string{"a", "A*", "a*0", "a*0*", "A*1", "a*1*", "a*2*", "a*00", "b", "b*0*", "*"}
	values := []string{"=u'v'%41", "=\"'\"", "=%4", "=''x%42'"}
	for _, list := range texts(names, 4) {
		check(t, "t"+withValues(list, names, values))
	}
	var params []string
	for _, name := range []string{"a*", "a*0", "a*0*", "a*1*", "b"} {
		for _, value := range values {
			params = append(params, ";"+name+value)
		}
	}
	for _, list := range texts(params, 3) {
		check(t, "t/s"+list)
	}
}

// withValues is a list of names, each ahead of a value of its own.
func withValues(list string, names, values []string) string {
	all := ""
	for place := 0; list != ""; place++ {
		longest := ""
		for _, name := range names {
			if strings.HasPrefix(list, name) && len(name) > len(longest) {
				longest = name
			}
		}
		all += ";" + longest + values[place%len(values)]
		list = list[len(longest):]
	}
	return all
}

// P7.1, P7.2: each byte in each place.
func TestEachByte(t *testing.T) {
	for i := range 256 {
		c := string([]byte{byte(i)})
		for _, text := range []string{
			c, c + "a", "a" + c, "a" + c + "/b", "a/" + c + "b", "a/b" + c, "a/b" + c + ";a=b", "a/b;" + c + "a=b",
			"a/b;a" + c + "=b", "a/b;a" + c + "c=b", "a/b;a=" + c, "a/b;a=" + c + "b", "a/b;a=b" + c, "a/b;a=b" + c + ";c=d",
			"a/b;a=\"" + c + "\";c=d", "a/b;a=\"\\" + c + "\";c=d", "a/b;a=\"x" + c, "a/b(" + c + ");a=b", "a/b(\\" + c + ");a=b",
			"a/b;a*" + c + "=b", "a/b;a*0" + c + "=b", "a/b;a*0" + c + "*=%41", "a/b;a*=%" + c + "1", "a/b;a*=%4" + c, "a/b;a*=x" + c + "y'z",
		} {
			check(t, text)
		}
	}
	check(t, allBytes())
	check(t, "a/b;c="+Quoted(allBytes()))
	check(t, "a/b;c*0*="+Quoted(allBytes()))
}

// P7.1, P7.2: long texts.
func TestLong(t *testing.T) {
	for _, n := range []int{99, 100, 101, 999, 1 << 12} {
		check(t, "t/s"+mixed(n))
	}
	const many = 1 << 16
	deep := strings.Repeat("(", many) + strings.Repeat(")", many)
	if got := of(t, deep+";a=b"); len(got) != 1 {
		t.Errorf("behind deep comments: %q", got)
	}
	if got := of(t, deep[1:]+";a=b"); len(got) != 0 {
		t.Errorf("behind a ) too many: %q", got)
	}
	if got := of(t, "("+deep+";a=b"); len(got) != 0 {
		t.Errorf("within a comment: %q", got)
	}
	var list strings.Builder
	for i := range many {
		n := strconv.Itoa(i)
		list.WriteString(";p" + n + "=" + n + ";q*" + n + "*=%41")
	}
	got := of(t, list.String())
	if len(got) != many+1 || got[0] != (Param{"p0", "0"}) || got[1] != (Param{"q", strings.Repeat("A", many)}) || got[many].Name != "p65535" {
		t.Errorf("many parameters: %d", len(got))
	}
	long := strings.Repeat("n", 1<<20)
	if got := of(t, ";"+long+"*="+long); len(got) != 1 || got[0] != (Param{long, long}) {
		t.Error("a long name and value")
	}
}

// P7.3: the first parameter of a name, but for small and capital letters.
func TestGet(t *testing.T) {
	v := Value{Type: "t", Sub: "s", Params: []Param{{"a", "1"}, {"B-c", "2"}, {"A", "3"}, {"b-C", "4"}, {"", "5"}, {"e*", "6"}, {"\xc3\x84", "7"}, {"f", ""}, {"@", "8"}, {"\u212a", "9"}}}
	for _, c := range []struct{ name, want string }{
		{"a", "1"}, {"A", "1"}, {"b-c", "2"}, {"B-C", "2"}, {"", "5"}, {"E*", "6"}, {"\xc3\x84", "7"}, {"F", ""}, {"@", "8"}, {"\u212a", "9"},
	} {
		if got, is := Get(v, c.name); got != c.want || !is {
			t.Errorf("Get(%q) = %q, %t", c.name, got, is)
		}
	}
	for _, name := range []string{"t", "s", "b", "b-", "b-cd", "e", "a ", "\xc3\xa4", "`", "k", "1"} {
		if got, is := Get(v, name); got != "" || is {
			t.Errorf("Get(%q) = %q, %t", name, got, is)
		}
	}
	for _, v := range []Value{{}, {Params: []Param{}}, {Type: "a", Sub: "a"}} {
		if got, is := Get(v, "a"); got != "" || is {
			t.Errorf("Get of none = %q, %t", got, is)
		}
	}
}

// P7.3: texts between quotes.
func TestQuoted(t *testing.T) {
	for _, c := range []struct{ text, want string }{
		{"", `""`},
		{"a b", `"a b"`},
		{`"`, `"\""`},
		{`\`, `"\\"`},
		{`\"`, `"\\\""`},
		{`a"b\c`, `"a\"b\\c"`},
		{`'()%`, `"'()%"`},
		{"\r\n\t\x00\xff\xc3\x84", "\"\r\n\t\x00\xff\xc3\x84\""},
	} {
		if got := Quoted(c.text); got != c.want {
			t.Errorf("Quoted(%q) = %q, not %q", c.text, got, c.want)
		}
	}
	for i := range 256 {
		c := string([]byte{byte(i)})
		want := `"` + c + `"`
		if i == '"' || i == '\\' {
			want = `"\` + c + `"`
		}
		if got := Quoted(c); got != want {
			t.Errorf("Quoted(%q) = %q", c, got)
		}
	}
}

// P7.4: a quoted value is read as it was, whatever stands around it.
func TestFollows(t *testing.T) {
	all := append(texts([]string{"\"", "\\", "a", "(", ";", "\xff", "\r\n"}, 5), allBytes(), mixed(1<<16), strings.Repeat(`\"`, 1<<16))
	for _, text := range all {
		quoted := Quoted(text)
		for _, front := range []string{"t;a=", "T (c); A = (d) ", "t;x=y;a*0="} {
			v, is := Parse(front+quoted+";b=c", false)
			got, has := Get(v, "a")
			if behind, _ := Get(v, "b"); !is || !has || got != text || behind != "c" {
				t.Fatalf("%q behind %q: %q, %t", quoted, front, v, is)
			}
		}
		if v, is := Parse("t;a="+quoted[:len(quoted)-1], false); !is || len(v.Params) > 0 {
			if got, _ := Get(v, "a"); got == text {
				t.Fatalf("%q without its end: %q, %t", quoted, v, is)
			}
		}
	}
}

// What is answered is new memory, and the same calls have the same answers.
func TestNewMemory(t *testing.T) {
	const text = "t/s;a=b;c*0=d;c*1=e"
	v, _ := Parse(text, true)
	v.Params[0] = Param{"x", "y"}
	again, is := Parse(text, true)
	if !is || !same(again, Value{"t", "s", []Param{{"a", "b"}, {"c", "de"}}}) {
		t.Errorf("a list that was answered is kept: %q", again)
	}
	if got, is := Get(v, "A"); is || !slices.Equal(v.Params, []Param{{"x", "y"}, {"c", "de"}}) {
		t.Errorf("Get = %q, and %q", got, v)
	}
}
