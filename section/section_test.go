package section

import (
	"math"
	"math/rand"
	"reflect"
	"slices"
	"strings"
	"testing"

	"letterbox/api"
)

// allBytes are the bytes that a name may have, in order.
func allBytes() string {
	var all []byte
	for c := byte(32); c < 127; c++ {
		all = append(all, c)
	}
	return string(all)
}

// What is asked for has the numbers of the chapter.
func TestKinds(t *testing.T) {
	if got := []int{All, Header, Fields, Not, Text, Mime}; !slices.Equal(got, []int{0, 1, 2, 3, 4, 5}) {
		t.Errorf("kinds: %v", got)
	}
}

// P15.1: specs that may be, and their texts.
func TestPut(t *testing.T) {
	for text, s := range map[string]Spec{
		"[]":                               {},
		"[HEADER]":                         {What: Header},
		"[TEXT]":                           {What: Text},
		"[1]":                              {Path: []int{1}},
		"[1.2.3]":                          {Path: []int{1, 2, 3}},
		"[1.MIME]":                         {Path: []int{1}, What: Mime},
		"[2.1.TEXT]":                       {Path: []int{2, 1}, What: Text},
		"[4294967295.10.HEADER]":           {Path: []int{greatest, 10}, What: Header},
		"[HEADER.FIELDS (A)]":              {What: Fields, Names: []string{"A"}},
		"[1.2.HEADER.FIELDS (A b)]<0.5>":   {Path: []int{1, 2}, What: Fields, Names: []string{"A", "b"}, Cut: true, Many: 5},
		"[HEADER.FIELDS.NOT (To cc Date)]": {What: Not, Names: []string{"To", "cc", "Date"}},
		"[3.HEADER.FIELDS.NOT (a a a)]":    {Path: []int{3}, What: Not, Names: []string{"a", "a", "a"}},
		`[HEADER.FIELDS ("")]`:             {What: Fields, Names: []string{""}},
		`[HEADER.FIELDS ("" "" a)]`:        {What: Fields, Names: []string{"", "", "a"}},
		`[HEADER.FIELDS ("a b" " ")]`:      {What: Fields, Names: []string{"a b", " "}},
		`[HEADER.FIELDS ("\"" "\\" "\\\"" "a\"b")]`: {What: Fields, Names: []string{`"`, `\`, `\"`, `a"b`}},
		`[HEADER.FIELDS ("(" ")" "]" "{" "%" "*")]`: {What: Fields, Names: []string{"(", ")", "]", "{", "%", "*"}},
		`[HEADER.FIELDS.NOT ([ } . < > ' X-a:b ~)]`: {What: Not, Names: []string{"[", "}", ".", "<", ">", "'", "X-a:b", "~"}},
		"[]<0.1>":              {Cut: true, Many: 1},
		"[]<1.4294967295>":     {Cut: true, From: 1, Many: greatest},
		"[TEXT]<4294967295.2>": {What: Text, Cut: true, From: greatest, Many: 2},
	} {
		if err := Check(s); err != api.OK {
			t.Errorf("Check(%+v) = %d", s, err)
		}
		if got := Put(s, false); got != text {
			t.Errorf("Put(%+v) = %q, not %q", s, got, text)
		}
		if got, err := Parse(text); err != api.OK || !same(got, s) {
			t.Errorf("Parse(%q) = %+v, %d, not %+v", text, got, err, s)
		}
		checkSpec(t, s)
		checkParse(t, text)
	}
}

// P15.1: an answer's text tells from where on, not how many.
func TestPutAnswer(t *testing.T) {
	for want, s := range map[string]Spec{
		"[]":                         {},
		"[]<0>":                      {Cut: true, Many: 1},
		"[1.TEXT]<7>":                {Path: []int{1}, What: Text, Cut: true, From: 7, Many: 70},
		"[HEADER.FIELDS (a)]":        {What: Fields, Names: []string{"a"}},
		"[HEADER.FIELDS (<1.2>)]<3>": {What: Fields, Names: []string{"<1.2>"}, Cut: true, From: 3, Many: 4},
		"[2.MIME]<4294967295>":       {Path: []int{2}, What: Mime, Cut: true, From: greatest, Many: greatest},
		"":                           {Cut: true},
	} {
		if got := Put(s, true); got != want {
			t.Errorf("Put(%+v, true) = %q, not %q", s, got, want)
		}
		checkSpec(t, s)
	}
	// Such a text is an answer's, not a spec's.
	for _, text := range []string{"[]<0>", "[1.TEXT]<7>", "[2.MIME]<4294967295>"} {
		if got, err := Parse(text); err != api.ErrSyntax || !reflect.DeepEqual(got, Spec{}) {
			t.Errorf("Parse(%q) = %+v, %d", text, got, err)
		}
	}
}

// P15.1: specs that may not be.
func TestCheckNone(t *testing.T) {
	a := []string{"a"}
	for _, s := range []Spec{
		{Path: []int{0}}, {Path: []int{-1}}, {Path: []int{1, 0, 1}}, {Path: []int{1, greatest + 1}}, {Path: []int{math.MaxInt}}, {Path: []int{math.MinInt, 1}}, {Path: []int{1<<32 + 1}}, {Path: ones(65, 1)}, {Path: ones(1000, 1)},
		{What: -1}, {What: 6}, {What: math.MaxInt}, {What: math.MinInt}, {What: 256}, {What: 1 << 32}, {Path: []int{1}, What: 6}, {What: 6, Names: a}, {What: -1, Names: a},
		{What: Mime}, {What: Mime, Path: []int{}}, {What: Mime, Cut: true, Many: 1}, {What: Mime, Path: []int{1}, Names: a}, {What: Mime, Names: a},
		{Names: a}, {What: Header, Names: a}, {What: Text, Names: a}, {Path: []int{1}, Names: a}, {Names: []string{""}}, {What: Header, Names: names(101, "a")},
		{What: Fields}, {What: Not}, {What: Fields, Names: []string{}}, {What: Not, Names: []string{}}, {What: Fields, Names: names(101, "a")}, {What: Not, Names: names(101, "")},
		{What: Fields, Names: []string{"a\x1f"}}, {What: Not, Names: []string{"\x7f"}}, {What: Fields, Names: []string{"a", "b", "\xc3\x84"}}, {What: Fields, Names: []string{"\n", "a"}}, {What: Not, Names: []string{"\x00"}}, {What: Not, Names: []string{"a\xff"}}, {What: Fields, Names: []string{"a\tb"}},
		{From: 1}, {Many: 1}, {From: 1, Many: 1}, {From: -1}, {Many: -1}, {Path: []int{1}, What: Text, Many: 5},
		{Cut: true}, {Cut: true, From: 1}, {Cut: true, Many: -1}, {Cut: true, From: -1, Many: 1}, {Cut: true, From: greatest + 1, Many: 1}, {Cut: true, Many: greatest + 1}, {Cut: true, From: math.MinInt, Many: 1}, {Cut: true, Many: math.MaxInt}, {Cut: true, From: 1 << 32, Many: 1<<32 + 1},
	} {
		if err := Check(s); err != api.ErrArg {
			t.Errorf("Check(%+v) = %d", s, err)
		}
		if told, answer := Put(s, false), Put(s, true); told != "" || answer != "" {
			t.Errorf("Put(%+v) = %q, %q", s, told, answer)
		}
		checkSpec(t, s)
	}
}

// P15.1: as many numbers and names as there may be, and as great ones, and one more.
func TestEdges(t *testing.T) {
	for _, n := range []int{0, 1, 63, 64, 65, 66, 128} {
		for what := All; what <= Mime; what++ {
			for _, list := range [][]string{nil, {"a"}} {
				checkSpec(t, Spec{Path: ones(n, 1), What: what, Names: list})
				checkSpec(t, Spec{Path: ones(n, greatest), What: what, Names: list})
			}
		}
		checkParse(t, "["+strings.Repeat(".1", n)[min(n, 1):]+"]")
		checkParse(t, "["+strings.Repeat("1.", n)+"MIME]")
		checkParse(t, "["+strings.Repeat("4294967295.", n)+"header.fields (a)]")
	}
	for _, n := range []int{0, 1, 99, 100, 101, 102, 1000} {
		for what := All; what <= Mime; what++ {
			checkSpec(t, Spec{Path: []int{1}, What: what, Names: names(n, "a")})
			checkSpec(t, Spec{What: what, Names: names(n, "")})
		}
		for _, name := range []string{" a", ` ""`, ` "\""`} {
			checkParse(t, "[HEADER.FIELDS ("+strings.Repeat(name, n)[min(n, 1):]+")]")
			checkParse(t, "[header.fields.not ("+strings.Repeat(name, n)[min(n, 1):]+")]")
		}
	}
	for _, n := range []int{math.MinInt, -1 << 32, -1, 0, 1, 2, 1<<31 - 1, 1 << 31, greatest - 1, greatest, greatest + 1, greatest + 2, 1 << 33, math.MaxInt} {
		for _, other := range []int{0, 1, greatest, greatest + 1} {
			checkSpec(t, Spec{Path: []int{n, other}})
			checkSpec(t, Spec{Path: []int{other, 1, n}, What: Text})
			checkSpec(t, Spec{Cut: true, From: n, Many: other})
			checkSpec(t, Spec{Cut: true, From: other, Many: n})
			checkSpec(t, Spec{From: n, Many: other})
			checkSpec(t, Spec{From: other, Many: n})
		}
		checkSpec(t, Spec{Path: []int{1}, What: n})
		checkSpec(t, Spec{Path: []int{1}, What: n, Names: []string{"a"}})
	}
}

// P15.1 to P15.3: all specs of a few paths, kinds, names and cuts, those that may not be among them.
func TestAllSpecs(t *testing.T) {
	lists := [][]string{nil, {}, {""}, {"a"}, {"A", "b"}, {"a b", `"`, `\`}, {"a", ""}, {")", "]", " (", "x"}, {"\n"}, {"a", "\x7f"}, {"HEADER"}, {"1.2"}}
	cuts := []Spec{{}, {From: 1}, {Many: 1}, {Cut: true}, {Cut: true, Many: 1}, {Cut: true, From: 3}, {Cut: true, From: 3, Many: 4}, {Cut: true, From: -1, Many: 1}, {Cut: true, From: 10, Many: greatest}, {Cut: true, From: greatest + 1, Many: 1}}
	for _, path := range [][]int{nil, {}, {1}, {0}, {-1}, {1, 2}, {1, 0}, {10, 20, 30}, {greatest}, {1, greatest + 1}} {
		for what := -2; what < 9; what++ {
			for _, list := range lists {
				for _, s := range cuts {
					s.Path, s.What, s.Names = path, what, list
					checkSpec(t, s)
				}
			}
		}
	}
}

// P15.1: which bytes a name may have, and which it has without quotes.
func TestNameBytes(t *testing.T) {
	for i := range 256 {
		c := string([]byte{byte(i)})
		for _, name := range []string{c, "a" + c, c + "b", "a" + c + "b", c + c} {
			for _, what := range []int{Fields, Not} {
				s := Spec{What: what, Names: []string{"x", name, "y"}}
				checkSpec(t, s)
				if is := Check(s) == api.OK; is != (i >= 32 && i < 127) {
					t.Errorf("Check of name %q: %t", name, is)
				}
				quoted := strings.Contains(Put(s, false), ` "`)
				if want := strings.Contains(` ()%{*"\]`, c); quoted != want && Check(s) == api.OK {
					t.Errorf("Put of name %q: %s", name, Put(s, false))
				}
			}
		}
	}
	checkSpec(t, Spec{What: Fields, Names: []string{allBytes()}})
	checkSpec(t, Spec{What: Not, Names: strings.Split(allBytes(), "")})
	for _, row := range texts([]string{`"`, `\`, " ", "a", ")", "]"}, 5) {
		checkSpec(t, Spec{What: Fields, Names: []string{row, row + "b"}})
	}
}

// P15.2: words with small and capital letters.
func TestWords(t *testing.T) {
	for word, what := range whats {
		s := Spec{Path: []int{7}, What: what}
		list := ""
		if what == Fields || what == Not {
			s.Names, list = []string{"Aa"}, " (Aa)"
		}
		if what == All {
			continue
		}
		small := strings.ToLower(word)
		for n := range 1 << 17 {
			mixed := []byte(small)
			for place := range mixed {
				if n>>(place%17)&1 == 1 {
					mixed[place] = word[place]
				}
			}
			if n >= 1<<len(word) {
				break
			}
			text := "[7." + string(mixed) + list + "]"
			if got, err := Parse(text); err != api.OK || !same(got, s) {
				t.Fatalf("Parse(%q) = %+v, %d", text, got, err)
			}
		}
	}
	for _, text := range []string{
		"[HEADER.F\u0130ELDS (a)]", "[HEADER.FIELD\u017f (a)]", "[M\u0131ME]", "[1.m\u0131me]", "[\uff34EXT]", "[T\xc5XT]", "[HEADER\x0eFIELDS (a)]", "[HEADERNFIELDS (a)]", "[HEADER FIELDS (a)]", "[HEADER-FIELDS (a)]", "[tex4]", "[T\x05XT]",
		"[HEADERS]", "[HEADE]", "[EADER]", "[TEXTS]", "[TEX]", "[XTEXT]", "[1.MIM]", "[1.MIMES]", "[HEADER.]", "[HEADER.FIELD (a)]", "[HEADER.NOT (a)]", "[HEADER.FIELDS.NO (a)]", "[HEADER.FIELDS.NOTS (a)]", "[FIELDS (a)]", "[NOT (a)]", "[HEADER.FIELDS. (a)]",
		"[ALL]", "[1.ALL]", "[HEADER.TEXT]", "[TEXT.HEADER]", "[BODY]", "[HEADER.MIME]", "[\"TEXT\"]", "[1.\"TEXT\"]", "[{4}\r\nTEXT]", "[NIL]",
	} {
		if got, err := Parse(text); err != api.ErrSyntax || !reflect.DeepEqual(got, Spec{}) {
			t.Errorf("Parse(%q) = %+v, %d", text, got, err)
		}
		checkParse(t, text)
	}
}

// P15.2: names between quotes, that need them or not; small and capital letters of names matter.
func TestNames(t *testing.T) {
	for text, want := range map[string][]string{
		`a`: {"a"}, `A`: {"A"}, `"a"`: {"a"}, `"A"`: {"A"}, `a "a"`: {"a", "a"}, `"a" a`: {"a", "a"}, `aB "aB" Ab`: {"aB", "aB", "Ab"},
		`""`: {""}, `"" ""`: {"", ""}, `" "`: {" "}, `" " " "`: {" ", " "}, `"a b" c`: {"a b", "c"}, `"\\"`: {`\`}, `"\""`: {`"`}, `"\\\""`: {`\"`}, `"\"\\"`: {`"\`}, `"\\" "\\"`: {`\`, `\`}, `"\" \""`: {`" "`},
		`")"`: {")"}, `")]"`: {")]"}, `"]<0.1>"`: {"]<0.1>"}, `]`: nil, `"(a)"`: {"(a)"}, `[`: {"["}, `"["`: {"["}, `<0.1>`: {"<0.1>"}, `1.2`: {"1.2"}, `HEADER`: {"HEADER"}, `"HEADER.FIELDS"`: {"HEADER.FIELDS"}, `nil`: {"nil"}, `NIL`: {"NIL"},
		``: nil, ` `: nil, `a `: nil, ` a`: nil, `a  b`: nil, "a\tb": nil, `a,b`: {"a,b"}, `a, b`: {"a,", "b"}, `"a""b"`: nil, `"a"b`: nil, `a"b"`: nil, `a"b`: nil, `"`: nil, `"a`: nil, `a"`: nil, `"a" "`: nil, `"a\"`: nil, `"\"`: nil, `\"a"`: nil,
		`"\a"`: nil, `"a\b"`: nil, `"\ "`: nil, `"\)"`: nil, `"\\\"`: nil, `"\\\a"`: nil, `\a`: nil, `\\`: nil, `a\`: nil, "\"\\\n\"": nil, "\"a\nb\"": nil, "\"\x7f\"": nil, "\"\xc3\x84\"": nil, "a\xc3\x84": nil, "a\x00": nil, "\"\x00\"": nil,
		`(a)`: nil, `a (b)`: nil, `a)b`: nil, `a%`: nil, `"a%"`: {"a%"}, `*`: nil, `"*"`: {"*"}, `{1}`: nil, `"{1}"`: {"{1}"}, "{1}\r\na": nil, `'a'`: {"'a'"},
	} {
		for word, what := range map[string]int{"HEADER.FIELDS": Fields, "1.header.fields.Not": Not} {
			text := "[" + word + " (" + text + ")]"
			got, err := Parse(text)
			if !slices.Equal(got.Names, want) || (err == api.OK) != (want != nil) || err == api.OK && got.What != what || err != api.OK && !reflect.DeepEqual(got, Spec{}) {
				t.Errorf("Parse(%q) = %+v, %d, not %q", text, got, err, want)
			}
			checkParse(t, text)
		}
	}
}

// P15.2: texts that are no spec's.
func TestParseNone(t *testing.T) {
	for _, text := range []string{
		"", " ", "[", "]", "][", "[[]]", "[]]", "[[]", "[] ", " []", "[ ]", "[]\r\n", "[]\x00", "()", "<0.1>", "BODY[]", "[].", "1", "TEXT", "1.TEXT", "[1", "1]", "[TEXT", "TEXT]",
		"[.]", "[.1]", "[1.]", "[1..2]", "[1.2.]", "[..]", "[.TEXT]", "[1..TEXT]", "[TEXT.]", "[1TEXT]", "[TEXT1]", "[TEXT.1]", "[1 .2]", "[1. 2]", "[1 2]", "[1,2]", "[1 ]", "[ 1]", "[1.TEXT ]", "[ TEXT]", "[1. TEXT]", "[1.2TEXT]", "[1.TEXT.2]",
		"[0]", "[01]", "[1.0]", "[1.02]", "[00]", "[0.TEXT]", "[01.TEXT]", "[01TEXT]", "[0TEXT]", "[00TEXT]", "[1.01TEXT]", "[4294967296]", "[42949672950]", "[4294967296.TEXT]", "[4294967296TEXT]", "[99999999999999999999TEXT]", "[18446744073709551617]", "[-1]", "[+1]", "[0x1]", "[1e1]", "[1_0]", "[\u0661]", "[\uff11]", "[a]", "[*]",
		"[MIME]", "[MIME]<0.1>", "[mime]", "[.MIME]",
		"[HEADER.FIELDS]", "[HEADER.FIELDS.NOT]", "[1.HEADER.FIELDS]", "[HEADER.FIELDS ]", "[HEADER.FIELDS (]", "[HEADER.FIELDS )]", "[HEADER.FIELDS ()]", "[HEADER.FIELDS a]", "[HEADER.FIELDS(a)]", "[HEADER.FIELDS  (a)]", "[HEADER.FIELDS\t(a)]", "[HEADER.FIELDS (a) ]", "[HEADER.FIELDS (a))]", "[HEADER.FIELDS (a)", "[HEADER.FIELDS (a", "[HEADER.FIELDS (a]", "[HEADER.FIELDS (a) (b)]", "[HEADER.FIELDS (a)(b)]", "[HEADER.FIELDS (a).NOT]", "[HEADER.FIELDS (a).NOT (b)]", "[HEADER.FIELDS (a)].TEXT", "[HEADER.FIELDS] (a)",
		"[ (a)]", "[(a)]", "[1 (a)]", "[1. (a)]", "[TEXT (a)]", "[HEADER (a)]", "[1.MIME (a)]", "[TEXT ()]", "[ ()]", "[HEADER ()]", "[1 ()]", "[0 (a)]",
		"[]<", "[]>", "[]<>", "[]<.>", "[]<0>", "[]<0.>", "[]<.1>", "[]<0.0>", "[]<1.0>", "[]<0.1", "[]0.1>", "[]<0,1>", "[]<0.1.>", "[]<0.1.2>", "[]<01.1>", "[]<0.01>", "[]<00.1>", "[]<-1.1>", "[]<0.-1>", "[]<+0.1>", "[]<0.+1>", "[]<4294967296.1>", "[]<0.4294967296>", "[]<0.42949672950>", "[]<0.99999999999999999999>", "[]<0 .1>", "[]<0. 1>", "[]< 0.1>", "[]<0.1 >", "[] <0.1>", "[]<0.1> ", "[]<0.1><0.1>", "[]<0.1>[]", "<0.1>[]", "[<0.1>]", "[1<0.1>]", "[]<0..1>", "[]<0.1>>", "[]<<0.1>", "[]<a.1>", "[]<0.a>", "[]<0x0.1>", "[]<1>", "[]<0.\u0661>",
	} {
		if got, err := Parse(text); err != api.ErrSyntax || !reflect.DeepEqual(got, Spec{}) {
			t.Errorf("Parse(%q) = %+v, %d", text, got, err)
		}
		checkParse(t, text)
	}
}

// P15.2: all short rows of pieces, as a whole text and within one.
func TestAllRows(t *testing.T) {
	pieces := []string{"[", "]", "1", "0", ".", "header", ".FIELDS", ".Not", "TEXT", "mime", " (", ")", " ", "a", `"b"`, `"`, `\`, "<", ">", "<0.1>", "4294967295"}
	for _, row := range texts(pieces, 3) {
		checkParse(t, row)
		checkParse(t, "["+row)
		checkParse(t, "["+row+"]")
		checkParse(t, "["+row+"]<0.1>")
		checkParse(t, "[1."+row+"]")
		checkParse(t, "[1.header"+row+"]")
		checkParse(t, "[header.fields"+row+"]")
		checkParse(t, "[header.fields ("+row+")]")
		checkParse(t, `[header.fields ("`+row+`")]`)
		checkParse(t, "[header.fields.not (a)]"+row)
	}
	for _, row := range texts([]string{"[", "]", "1", "0", ".", "TEXT", "mime", " ", "<", ">"}, 5) {
		checkParse(t, row)
		checkParse(t, "["+row+"]")
		checkParse(t, "[]<"+row+">")
	}
	for _, row := range texts([]string{`"`, `\`, " ", "a", ")", "("}, 6) {
		checkParse(t, "[HEADER.FIELDS ("+row+")]")
		checkParse(t, "[HEADER.FIELDS ("+row)
	}
	for _, row := range texts([]string{"0", "1", "9", "4294967295", "4294967296", ".", "0000000000"}, 4) {
		checkParse(t, "["+row+"]")
		checkParse(t, "["+row+".TEXT]")
		checkParse(t, "[TEXT]<"+row+">")
		checkParse(t, "[]<0."+row+">")
	}
}

// P15.2: texts that are a spec's but for a byte.
func TestNearly(t *testing.T) {
	for _, text := range []string{
		"[]", "[1]", "[12.34]", "[TEXT]", "[header]", "[1.Mime]", "[10.20.text]<30.40>", "[]<0.1>", "[4294967295]<4294967295.4294967295>",
		"[1.2.header.fields (A b)]<0.5>", `[HEADER.FIELDS.NOT (To "c d" "\"" "\\" "")]`, `[1.HEADER.FIELDS ("a\"b\\c" d)]<10.1>`,
	} {
		nearly(t, text, checkParse)
	}
}

// P15.2, P15.3: long texts.
func TestLong(t *testing.T) {
	const many = 1 << 20
	long := strings.Repeat("n", many)
	for _, name := range []string{long, strings.Repeat(`"`, many), strings.Repeat(`\`, many), strings.Repeat(" ", many), strings.Repeat(`\"`, many) + "a", strings.Repeat(allBytes(), 1<<12)} {
		s := Spec{Path: []int{1}, What: Not, Names: []string{name, "a", name}}
		got, err := Parse(Put(s, false))
		if err != api.OK || !same(got, s) {
			t.Errorf("a long name of %.9q: %d", name, err)
		}
	}
	for _, text := range []string{
		"[" + long, "[" + long + "]", "[1." + long + "]", "[" + strings.Repeat("1.", many) + "1]", "[" + strings.Repeat("1", many) + "]", "[" + strings.Repeat("0", many) + "1]", "[" + strings.Repeat("[", many), strings.Repeat("[]", many),
		"[HEADER.FIELDS (" + strings.Repeat("a ", many) + "a)]", "[HEADER.FIELDS (" + long, `[HEADER.FIELDS ("` + long, `[HEADER.FIELDS ("` + strings.Repeat(`\"`, many), `[HEADER.FIELDS ("` + strings.Repeat(`\`, many-1), "[HEADER.FIELDS (" + strings.Repeat("(", many),
		"[]<" + strings.Repeat("0", many) + ".1>", "[]<0." + strings.Repeat("1", many) + ">", "[]<0.1>" + long, strings.Repeat(" ", many) + "[]",
	} {
		if got, err := Parse(text); err != api.ErrSyntax || !reflect.DeepEqual(got, Spec{}) {
			t.Errorf("Parse(%.30q) = %+v, %d", text, got, err)
		}
	}
	r := rand.New(rand.NewSource(15))
	for range 1 << 11 {
		path := "[" + drawn(r, []string{"1.", "23.", "4294967295."}, r.Intn(70))
		list := drawn(r, []string{" a", ` "b"`, ` "\\"`, ` ""`, " x-Y"}, 1+r.Intn(110))[1:]
		checkParse(t, path+"TEXT]")
		checkParse(t, path+"header.FIELDS ("+list+")]<1.2>")
		checkParse(t, path+"1]"+drawn(r, []string{"<1.2>", ""}, 1))
	}
}

// What is handed in isn't changed, and what is answered is new memory: the same calls have the same answers.
func TestNewMemory(t *testing.T) {
	path, list := ones(9, 3)[:3:9], names(9, `a "`)[:2:9]
	s := Spec{Path: path, What: Fields, Names: list, Cut: true, From: 1, Many: 2}
	const text = `[3.3.3.HEADER.FIELDS ("a \"" "a \"")]<1.2>`
	for range 2 {
		if Check(s) != api.OK || Put(s, false) != text || Put(s, true) != text[:len(text)-3]+">" {
			t.Errorf("of %+v: %q", s, Put(s, false))
		}
	}
	if !slices.Equal(path[:9], ones(9, 3)) || !slices.Equal(list[:9], names(9, `a "`)) {
		t.Errorf("lists were changed: %v, %q", path[:9], list[:9])
	}
	first, _ := Parse(text)
	first.Path[0], first.Names[0] = 9, "z"
	if again, err := Parse(text); err != api.OK || !same(again, s) {
		t.Errorf("a list that was answered is kept: %+v, %d", again, err)
	}
}
