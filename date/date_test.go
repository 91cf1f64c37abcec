package date

import (
	"math"
	"math/big"
	"strings"
	"testing"
)

// P11.1: moments of headers.
func TestParse(t *testing.T) {
	for s, want := range map[string]Time{
		"Thu, 1 Jan 1970 01:00:00 +0100":   {0, 60},
		"1 Jan 1970 00:00":                 {0, 0},
		"01 Jan 70 00:00:01":               {1, 0},
		"1 jAN 1970 00:00:00 gmt":          {0, 0},
		"Fri, 21 Nov 1997 09:55:06 -0600":  {880127706, -360},
		"Thu, 29 Feb 1996 12:00:00 UT":     {825595200, 0},
		"Mon, 12 Nov 2029 11:22:33 EST":    {1889194953, -300},
		"29 Feb 2000 23:59:59 +2359":       {951868799 - 86340, 1439},
		"29 Feb 2000 23:59:59 -2359":       {951868799 + 86340, -1439},
		"1 Jan 2000 00:00 -0000":           {946684800, 0},
		"1 Jan 2000 00:00 -0001":           {946684860, -1},
		"1 Jan 2000 00:00 +0130":           {946684800 - 5400, 90},
		"1 Jan 1970 00:00:60":              {60, 0},
		"30 Jun 1997 23:59:60":             {867715200, 0},
		"1 Jan 1970 12:34:60 +0001":        {45240, 1},
		"1 Jan 0001 00:00:00":              {firstSec, 0},
		"1 Jan 0001 00:00:00 +2359":        {firstSec - 86340, 1439},
		"31 Dec 9999 23:59:59":             {endSec - 1, 0},
		"31 Dec 9999 23:59:60 -2359":       {endSec + 86340, -1439},
		"\t Thu,\t1  Jan\t 1970 00:00 \t":  {0, 0},
		"1 Jan 1970 00:00:00      +0000  ": {0, 0},
	} {
		if got, is := Parse(s); got != want || !is {
			t.Errorf("Parse(%q) = %v, %t, not %v", s, got, is, want)
		}
		checkParse(t, s)
	}
}

// P11.1: years of two digits are of the hundred years from 1950 on.
func TestShortYears(t *testing.T) {
	for s, want := range map[string]int64{
		"1 Jan 00 00:00":   946684800,
		"1 Jan 49 00:00":   2493072000,
		"1 Jan 50 00:00":   -631152000,
		"1 Jan 99 00:00":   915148800,
		"29 Feb 00 00:00":  951782400,
		"1 Jan 0049 00:00": firstSec + (48*365+12)*daySec,
	} {
		if got, is := Parse(s); got != (Time{want, 0}) || !is {
			t.Errorf("Parse(%q) = %v, %t, not %d", s, got, is, want)
		}
	}
	for _, two := range twos() {
		checkParse(t, "29 Feb "+two+" 00:00")
		checkParse(t, "31 Dec "+two+" 00:00")
		checkParse(t, "1 Jan 1"+two+" 00:00")
		checkParse(t, "1 Jan 00"+two+" 00:00")
		checkParse(t, "1 Jan 001"+two+" 00:00")
	}
}

// P11.1: zones that have names.
func TestZoneNames(t *testing.T) {
	for name, zone := range map[string]int{
		"UT": 0, "GMT": 0, "EST": -300, "EDT": -240, "CST": -360, "CDT": -300, "MST": -420, "MDT": -360, "PST": -480, "PDT": -420,
		"eSt": -300, "pdT": -420, "gMt": 0, "ut": 0, "Z": 0, "A": 0, "j": 0, "ES": 0, "ESTX": 0, "XEST": 0, "CET": 0, "CEST": 0, "UTC": 0, "Jan": 0, strings.Repeat("EST", 999): 0,
	} {
		if got, is := Parse("1 Jan 1970 00:00 " + name); got != (Time{int64(-60 * zone), zone}) || !is {
			t.Errorf("Parse of zone %q = %v, %t, not %d", name, got, is, zone)
		}
	}
	for _, name := range texts(strings.Split("ABCDEFGHIJKLMNOPQRSTUVWXYZz", ""), 3) {
		checkParse(t, "1 Jan 1970 00:00:00 "+name)
	}
	for _, name := range []string{"EST5", "5EST", "E-T", "E.T", "EST+0100", "+EST", "-", "+", "\xc3\x89ST", "E\u017fT", "E\x00T", "EST,", "E ST", "EST EST", "+0100 EST", "EST +0100"} {
		if got, is := Parse("1 Jan 1970 00:00 " + name); got != (Time{}) || is {
			t.Errorf("Parse of zone %q = %v, %t", name, got, is)
		}
	}
}

// P11.1: zones of digits.
func TestZones(t *testing.T) {
	for _, four := range fours() {
		for _, sign := range []string{"+", "-"} {
			checkParse(t, "1 Jan 1970 00:00 "+sign+four)
		}
	}
	for _, zone := range []string{"+", "-", "+1", "+01", "+010", "+01000", "0100", "+01:00", "++100", "+-100", "+ 0100", "+0x10", "\u22120100"} {
		if got, is := Parse("1 Jan 1970 00:00 " + zone); got != (Time{}) || is {
			t.Errorf("Parse of zone %q = %v, %t", zone, got, is)
		}
	}
}

// P11.1: a first part that ends in a comma, with any three bytes ahead of it.
func TestOfWeek(t *testing.T) {
	for _, first := range []string{"Thu,", "xyz,", "MON,", "123,", ",,,,", "...,", "\x00\xff\n,", "\xe2\x82\xac,", ")\\\",", "\r\n\v,"} {
		for _, s := range []string{first + " 1 Jan 1970 00:00", first + "\t1 Jan 1970 00:00:00 GMT", "(x)" + first + "(x)1 Jan 1970 00:00"} {
			if got, is := Parse(s); got != (Time{}) || !is {
				t.Errorf("Parse(%q) = %v, %t", s, got, is)
			}
		}
	}
	for _, first := range []string{"Th,", ",", "Thur,", "Thursday,", "Thu", "Thu;", "Thu ,", "T u,", "Thu, Thu,", "Thu,,", "T(x)hu,", "Thu(x),", "(Thu,"} {
		if got, is := Parse(first + " 1 Jan 1970 00:00"); got != (Time{}) || is {
			t.Errorf("Parse of first part %q = %v, %t", first, got, is)
		}
	}
	for _, s := range []string{"Thu,1 Jan 1970 00:00", "1 Thu, Jan 1970 00:00", "1 Jan 1970 00:00 Thu,", "Thu,", "Thu, "} {
		if got, is := Parse(s); got != (Time{}) || is {
			t.Errorf("Parse(%q) = %v, %t", s, got, is)
		}
	}
}

// P11.1: comments are blanks.
func TestComments(t *testing.T) {
	for _, s := range []string{
		"(x)1(x)Jan(x)1970(x)00:00(x)", "Thu,(x)1 Jan 1970 00:00 (GMT)", "1 Jan 1970 00:00 (a (b) \\) c)", "1 Jan 1970 00:00:00(", "1 Jan 1970 00:00 +0000 (CET",
		"1 Jan 1970 00:00 (\\", "1 Jan 1970 00:00 (x\\)", "1 Jan 1970 00:00 (x(y)", "()()1()Jan() () 1970()00:00()()", "(1 Jan) 1 (\\() Jan 1970 00:00", "1 Jan 1970(\x00\xff\r\n)00:00",
		"1" + strings.Repeat("(", 1<<16) + strings.Repeat(")", 1<<16) + "Jan 1970 00:00" + strings.Repeat("(", 1<<16),
		"1" + strings.Repeat("()", 1<<16) + "Jan 1970 00:00" + strings.Repeat(" ", 1<<16),
	} {
		if got, is := Parse(s); got != (Time{}) || !is {
			t.Errorf("Parse(%q) = %v, %t", s, got, is)
		}
	}
	for _, s := range []string{
		"", " ", "()", "(", "(1 Jan 1970 00:00)", "1 Jan 1970 (00:00)", "1 Jan 1970 00(x):00", "1 Jan 1970 00:(x)00", "1 Jan 19(x)70 00:00", "1 J(x)an 1970 00:00", "1(x)2 Jan 1970 00:00",
		"1 Jan 1970 00:00 +(x)0100", "1 Jan 1970 00:00)", "1 Jan 1970 00:00 )", "1 Jan 1970 00:00 (x))", "1 (x Jan 1970 00:00", "1 Jan 1970 00:00 \\(x)", "1 Jan 1970 00:00 \"(x)\"", "1 Jan (\\) 1970 00:00",
	} {
		if got, is := Parse(s); got != (Time{}) || is {
			t.Errorf("Parse(%q) = %v, %t", s, got, is)
		}
		checkParse(t, s)
	}
	for _, text := range texts([]string{"(", ")", "\\", " ", "x"}, 6) {
		checkParse(t, text+"1 Jan 1970 00:00")
		checkParse(t, "1"+text+"Jan 1970 00:00")
		checkParse(t, "1 Jan 1970 00:00"+text)
		checkParse(t, "1 Jan 1970 00:00 ("+text+"x")
	}
}

// P11.1: what is none.
func TestParseNone(t *testing.T) {
	for _, s := range []string{
		"1", "1 Jan", "1 Jan 1970", "Jan 1 1970 00:00", "1970 Jan 1 00:00", "1 Jan 00:00 1970", "1-Jan-1970 00:00", "1 1 1970 00:00", "1 January 1970 00:00", "1 Ja 1970 00:00", "1 Jan. 1970 00:00",
		"1 Jan 1970 00:00 GMT x", "1 Jan 1970 00:00 +0000 x", "1 Jan 1970 00:00 x 1", "001 Jan 1970 00:00", " Jan 1970 00:00", "x Jan 1970 00:00", "1, Jan 1970 00:00", "1st Jan 1970 00:00",
		"1 Jan 970 00:00", "1 Jan 7 00:00", "1 Jan 01970 00:00", "1 Jan 19700 00:00", "1 Jan +1970 00:00", "1 Jan -70 00:00", "1 Jan 1970, 00:00", "1 Jan 0000 00:00",
		"1 Jan 1970 0:00", "1 Jan 1970 00:0", "1 Jan 1970 000:00", "1 Jan 1970 00:000", "1 Jan 1970 00", "1 Jan 1970 0000", "1 Jan 1970 00:", "1 Jan 1970 :00", "1 Jan 1970 00:00:", "1 Jan 1970 00:00:0",
		"1 Jan 1970 00:00:000", "1 Jan 1970 00:00:00:00", "1 Jan 1970 00:00:00.0", "1 Jan 1970 00.00", "1 Jan 1970 00-00", "1 Jan 1970 00: 00", "1 Jan 1970 00 :00", "1 Jan 1970 00:00 :00", "1 Jan 1970 00:00+0000", "1 Jan 1970 00:00GMT",
		"0 Jan 1970 00:00", "00 Jan 1970 00:00", "32 Jan 1970 00:00", "29 Feb 1970 00:00", "29 Feb 1900 00:00", "30 Feb 2000 00:00", "31 Apr 1970 00:00", "31 Jun 1970 00:00", "31 Sep 1970 00:00", "31 Nov 1970 00:00", "99 Dec 1970 00:00",
		"1 Jan 1970 24:00", "1 Jan 1970 23:60", "1 Jan 1970 23:59:61", "1 Jan 1970 99:00", "1 Jan 1970 00:00 +2400", "1 Jan 1970 00:00 -2400", "1 Jan 1970 00:00 +0060", "1 Jan 1970 00:00 -0060", "1 Jan 1970 00:00 +9999",
		"1 Jan 1970\n00:00", "1 Jan 1970 00:00\r\n", "\r\n1 Jan 1970 00:00", "1\vJan 1970 00:00", "1\u00a0Jan 1970 00:00", "\u0661 Jan 1970 00:00", "\uff11 Jan 1970 00:00", "\xff Jan 1970 00:00", "1 Jan 1970 00:00\x00",
	} {
		if got, is := Parse(s); got != (Time{}) || is {
			t.Errorf("Parse(%q) = %v, %t", s, got, is)
		}
		checkParse(t, s)
	}
}

// P11.1: all short rows of parts.
func TestAllRows(t *testing.T) {
	parts := []string{" Thu,", " 1", " Jan", " 70", " 1970", " 00:00", " 00:00:01", " +0100", " EST"}
	for _, row := range texts(parts, 3) {
		checkParse(t, row)
		checkParse(t, "1 Jan"+row)
		checkParse(t, "Thu, 1 Jan"+row)
		checkParse(t, "1 Jan 1970"+row)
		checkParse(t, row+" 1970 00:00")
		checkParse(t, row+" 1970 00:00 +0100")
		checkParse(t, row+" 70 00:00:01 EST x")
	}
}

// P11.1 to P11.3: days, months and years that may be, and that may not.
func TestAllDays(t *testing.T) {
	for _, year := range []string{"0000", "0001", "0004", "0100", "0400", "1600", "1700", "1800", "1900", "1904", "1969", "1970", "1972", "1999", "2000", "2023", "2024", "2100", "9996", "9999", "00", "49", "50", "99"} {
		for at := 0; at < len(monthNames); at += 3 {
			month := monthNames[at : at+3]
			for _, day := range append(twos(), "0", "1", "9", " 0", " 1", " 9", "") {
				checkParse(t, day+" "+month+" "+year+" 12:34:56 +0100")
				checkInternal(t, `"`+day+"-"+month+"-"+year+` 12:34:56 +0100"`)
				checkDay(t, day+"-"+month+"-"+year)
				checkDay(t, `"`+day+"-"+month+"-"+year+`"`)
			}
		}
	}
}

// P11.1 to P11.3: names of months with small and capital letters, and texts that are none.
func TestMonths(t *testing.T) {
	check := func(month string) {
		t.Helper()
		checkParse(t, "1 "+month+" 1970 00:00")
		checkInternal(t, `"01-`+month+`-1970 00:00:00 +0000"`)
		checkDay(t, "1-"+month+"-1970")
	}
	for at := 0; at < len(monthNames); at += 3 {
		month := monthNames[at : at+3]
		for form := range 8 {
			name := ""
			for i, c := range strings.Split(month, "") {
				if form>>i&1 == 0 {
					c = strings.ToLower(c)
				} else {
					c = strings.ToUpper(c)
				}
				name += c
			}
			check(name)
			if n, is := ParseDay("1-" + name + "-1970"); !is || n != []int{0, 31, 59, 90, 120, 151, 181, 212, 243, 273, 304, 334}[at/3] {
				t.Errorf("the day of %q = %d, %t", name, n, is)
			}
		}
		nearly(t, month, func(t *testing.T, s string) {
			t.Helper()
			check(s)
		})
	}
	for _, name := range []string{"", "anF", "nFe", "ber", "J\xc3\xa1n", "\u017fep", "Okt", "Mai", "Sept", "01", "1", "JanFeb", "J\xe1n"} {
		check(name)
	}
}

// P11.1, P11.2: hours, minutes and seconds that may be, and that may not.
func TestAllClocks(t *testing.T) {
	for _, two := range twos() {
		for _, clock := range []string{two + ":00:00", two + ":59:59", "00:" + two + ":00", "23:" + two + ":59", "00:00:" + two, "23:59:" + two, two + ":" + two + ":" + two, two + ":" + two} {
			checkParse(t, "31 Dec 1969 "+clock+" -0100")
			checkInternal(t, `"31-Dec-1969 `+clock+` -0100"`)
		}
	}
	for _, four := range fours() {
		for _, sign := range []string{"+", "-", " "} {
			checkInternal(t, `" 1-Mar-2000 00:00:00 `+sign+four+`"`)
		}
	}
}

// P11.1 to P11.3: texts, and those that are nearly such.
func TestEachByte(t *testing.T) {
	for _, s := range []string{"Thu, 1 Jan 1970 01:00:00 +0100", "29 Feb 00 23:59 (x(y)\\)) EST", "31 Dec 9999 23:59:60 -2359", "1 Feb 50 00:00"} {
		nearly(t, s, checkParse)
	}
	for _, s := range []string{`" 1-Jan-1970 01:00:00 +0100"`, `"29-Feb-2000 23:59:59 -2359"`, `"09-dEC-0001 00:00:00 -0000"`} {
		nearly(t, s, checkInternal)
	}
	for _, s := range []string{"1-Jan-1970", "29-Feb-2000", `"9-Dec-9999"`, `"30-nov-0001"`} {
		nearly(t, s, checkDay)
	}
}

// P11.2: moments as IMAP tells them.
func TestInternal(t *testing.T) {
	for want, at := range map[string]Time{
		`" 1-Jan-1970 00:00:00 +0000"`: {0, 0},
		`" 1-Jan-1970 01:00:00 +0100"`: {0, 60},
		`"31-Dec-1969 23:00:00 -0100"`: {0, -60},
		`"31-Dec-1969 23:59:59 +0000"`: {-1, 0},
		`"31-Dec-1969 23:59:00 -0001"`: {0, -1},
		`" 1-Jan-1970 23:59:00 +2359"`: {0, 1439},
		`"31-Dec-1969 00:01:00 -2359"`: {0, -1439},
		`"29-Feb-2000 23:59:59 +0130"`: {951868799 - 5400, 90},
		`"21-Nov-1997 09:55:06 -0600"`: {880127706, -360},
		`" 1-Jan-0001 00:00:00 +0000"`: {firstSec, 0},
		`" 1-Jan-0001 00:00:00 +2359"`: {firstSec - 86340, 1439},
		`" 1-Jan-0001 00:00:00 -2359"`: {firstSec + 86340, -1439},
		`"31-Dec-9999 23:59:59 +0000"`: {endSec - 1, 0},
		`"31-Dec-9999 23:59:59 -2359"`: {endSec + 86339, -1439},
		`"31-Dec-9999 23:59:59 +2359"`: {endSec - 86341, 1439},
	} {
		if got := Internal(at); got != want {
			t.Errorf("Internal(%v) = %q, not %q", at, got, want)
		}
		checkText(t, at)
	}
}

// P11.2: moments that are told as nothing.
func TestInternalNothing(t *testing.T) {
	for _, at := range []Time{
		{firstSec - 1, 0}, {firstSec - 86341, 1439}, {firstSec + 86339, -1439}, {endSec, 0}, {endSec + 86340, -1439}, {endSec - 86340, 1439},
		{0, 1440}, {0, -1440}, {0, 1441}, {0, -1441}, {0, math.MaxInt}, {0, math.MinInt}, {0, math.MaxInt32}, {0, math.MinInt32},
		{1 << 40, 0}, {-1 << 40, 0}, {1<<40 + 1, 0}, {-1<<40 - 1, 0}, {1 << 40, -1439}, {-1 << 40, 1439},
		{math.MaxInt64, 0}, {math.MinInt64, 0}, {math.MaxInt64, 1439}, {math.MinInt64, -1439}, {math.MaxInt64, math.MaxInt}, {math.MinInt64, math.MinInt},
		// Moments whose seconds, but for the bits beyond some, are those of 1970.
		{1 << 62, 0}, {1 << 61, 0}, {1 << 42, 0}, {math.MinInt64, 1}, {math.MinInt64 / 60 * 60, 0}, {0, math.MinInt / 60}, {0, 1 << 62}, {0, 1 << 58},
	} {
		if got := Internal(at); got != "" {
			t.Errorf("Internal(%v) = %q", at, got)
		}
	}
}

// P11.2, P11.4: moments of all kinds are told, and read as they were.
func TestFollows(t *testing.T) {
	for zone := -1442; zone <= 1442; zone++ {
		for _, sec := range []int64{0, 1, -1, 86399, -86399, 86400, 951868799, 951782400, 951868800, firstSec, firstSec - 1, firstSec + 1, endSec, endSec - 1, endSec - 86400, endSec + 86399, firstSec - 86340, firstSec + 86340} {
			checkText(t, Time{sec, zone})
			checkText(t, Time{sec - int64(60*zone), zone})
			checkText(t, Time{sec - int64(60*zone) - 1, zone})
		}
	}
	zone := 0
	for sec := int64(firstSec - 2*daySec); sec < endSec+2*daySec; sec += 1234577 {
		checkText(t, Time{sec, zone})
		zone = (zone+1439+37)%2879 - 1439
	}
	for sec := range int64(daySec) {
		checkText(t, Time{sec - 7, 7})
	}
}

// P11.2: texts of IMAP.
func TestParseInternal(t *testing.T) {
	for s, want := range map[string]Time{
		`" 1-Jan-1970 00:00:00 +0000"`: {0, 0},
		`"01-Jan-1970 00:00:00 +0000"`: {0, 0},
		`"01-jan-1970 00:00:00 -0000"`: {0, 0},
		`" 1-JAN-1970 01:00:00 +0100"`: {0, 60},
		`"09-sEp-2001 01:46:40 +0000"`: {1000000000, 0},
		`" 9-Sep-2001 01:46:40 -0001"`: {1000000060, -1},
		`"29-Feb-2000 23:59:59 +2359"`: {951868799 - 86340, 1439},
		`" 1-Jan-0001 00:00:00 +2359"`: {firstSec - 86340, 1439},
		`"31-Dec-9999 23:59:59 -2359"`: {endSec + 86339, -1439},
	} {
		if got, is := ParseInternal(s); got != want || !is {
			t.Errorf("ParseInternal(%q) = %v, %t, not %v", s, got, is, want)
		}
		checkInternal(t, s)
	}
	for _, s := range []string{
		"", `"`, `""`, ` 1-Jan-1970 00:00:00 +0000`, `" 1-Jan-1970 00:00:00 +0000`, ` 1-Jan-1970 00:00:00 +0000"`, `"1-Jan-1970 00:00:00 +0000"`, `"1-Jan-1970 00:00:00 +0000" `, `"1 -Jan-1970 00:00:00 +0000"`,
		"\"\t1-Jan-1970 00:00:00 +0000\"", `" 0-Jan-1970 00:00:00 +0000"`, `"00-Jan-1970 00:00:00 +0000"`, `" 11-Jan-1970 00:00:00 +000"`, `"+1-Jan-1970 00:00:00 +0000"`, `"-1-Jan-1970 00:00:00 +0000"`, `"  -Jan-1970 00:00:00 +0000"`,
		`"32-Jan-1970 00:00:00 +0000"`, `"29-Feb-1900 00:00:00 +0000"`, `"30-Feb-2000 00:00:00 +0000"`, `"31-Apr-1970 00:00:00 +0000"`, `" 1-Jan-0000 00:00:00 +0000"`, `" 1-Jan-  70 00:00:00 +0000"`, `" 1-Jan-70 00:00:00 +000000"`,
		`" 1-Jan-1970 24:00:00 +0000"`, `" 1-Jan-1970 00:60:00 +0000"`, `" 1-Jan-1970 00:00:60 +0000"`, `"30-Jun-1997 23:59:60 +0000"`, `" 1-Jan-1970 00:00:61 +0000"`, `" 1-Jan-1970 00:00    +0000"`, `" 1-Jan-1970 00.00.00 +0000"`,
		`" 1-Jan-1970 00:00:00 +2400"`, `" 1-Jan-1970 00:00:00 -2400"`, `" 1-Jan-1970 00:00:00 +0060"`, `" 1-Jan-1970 00:00:00  0000"`, `" 1-Jan-1970 00:00:00 00000"`, `" 1-Jan-1970 00:00:00   EST"`, `" 1-Jan-1970 00:00:00 +000x"`,
		`" 1-Jan-1970  0:00:00 +0000"`, `" 1/Jan/1970 00:00:00 +0000"`, `" 1 Jan 1970 00:00:00 +0000"`, "\" 1-Jan-1970\t00:00:00 +0000\"", `" 1-Jan-1970-00:00:00 +0000"`, `' 1-Jan-1970 00:00:00 +0000'`,
		` " 1-Jan-1970 00:00:00 +0000"`, `" 1-Jan-1970 00:00:00 +0000" `, `" 1-Jan-1970 00:00:00 +0000"x`, `" 1-Jan-1970 00:00:00 +00000"`, `"(1-Jan-1970 00:00:00 +0000)"`, "\"\xff1-Jan-1970 00:00:00 +0000\"", strings.Repeat(`"`, 28), strings.Repeat("1", 28),
	} {
		if got, is := ParseInternal(s); got != (Time{}) || is {
			t.Errorf("ParseInternal(%q) = %v, %t", s, got, is)
		}
		checkInternal(t, s)
	}
}

// P11.3: days of moments, rounded down.
func TestDay(t *testing.T) {
	for at, want := range map[Time]int{
		{0, 0}: 0, {86399, 0}: 0, {86400, 0}: 1, {-1, 0}: -1, {-86400, 0}: -1, {-86401, 0}: -2,
		{0, -1}: -1, {60, -1}: 0, {59, -1}: -1, {86399, 1}: 1, {86340, 1}: 1, {86339, 1}: 0, {0, 1439}: 0, {0, 1440}: 1, {0, -1440}: -1, {0, -1441}: -2,
		{firstSec, 0}: -719162, {firstSec - 1, 0}: -719163, {endSec - 1, 0}: 2932896, {endSec, 0}: 2932897,
	} {
		if got := Day(at); got != want {
			t.Errorf("Day(%v) = %d, not %d", at, got, want)
		}
	}
	var secs, zones []int64
	for _, n := range []int64{0, 1439, 1440, 86399, 86400, 1 << 31, 1 << 32, 1 << 40, 1 << 53, math.MaxInt64 / 60, math.MaxInt64 / 61, math.MaxInt64 - 2, math.MinInt64 + 2} {
		for more := int64(-2); more <= 2; more++ {
			secs = append(secs, n+more, -n+more)
			zones = append(zones, n+more, -n+more)
		}
	}
	for _, sec := range secs {
		for _, zone := range zones {
			sum := new(big.Int).Mul(big.NewInt(60), big.NewInt(zone))
			sum.Add(sum, big.NewInt(sec))
			// By a number above 0, Div rounds down.
			want := sum.Div(sum, big.NewInt(daySec)).Int64()
			if got := Day(Time{sec, int(zone)}); int64(got) != want {
				t.Fatalf("Day(%d, %d) = %d, not %d", sec, zone, got, want)
			}
		}
	}
}

// P11.3: texts of days.
func TestParseDay(t *testing.T) {
	for s, want := range map[string]int{
		"1-Jan-1970": 0, "01-Jan-1970": 0, `"1-Jan-1970"`: 0, `"01-jAN-1970"`: 0, "31-Dec-1969": -1, "1-Jan-0001": -719162, "29-Feb-0004": -718008, "28-Feb-0100": -682945, "1-Mar-0100": -682944, "29-Feb-0400": -573372,
		"29-Feb-1600": -135081, "1-Mar-1700": -98556, "28-Feb-1900": -25509, "1-Mar-1900": -25508, "29-Feb-2000": 11016, "1-Mar-2000": 11017, "29-feb-2024": 19782, "19-NOV-2026": 20776, "1-Mar-2100": 47541, `"31-Dec-9999"`: 2932896,
	} {
		if got, is := ParseDay(s); got != want || !is {
			t.Errorf("ParseDay(%q) = %d, %t, not %d", s, got, is, want)
		}
		checkDay(t, s)
	}
	for _, s := range []string{
		"", `"`, `""`, "-", "--", "1", "1-Jan", "1-Jan-", "-Jan-1970", "1--1970", `"1-Jan-1970`, `1-Jan-1970"`, `""1-Jan-1970""`, `'1-Jan-1970'`, ` 1-Jan-1970`, `" 1-Jan-1970"`, "1-Jan-1970 ", `"1-Jan-1970" `, ` "1-Jan-1970"`, `"1-Jan-1970 "`,
		"0-Jan-1970", "00-Jan-1970", "32-Jan-1970", "001-Jan-1970", "29-Feb-1970", "29-Feb-1900", "29-Feb-2100", "30-Feb-2000", "31-Apr-1970", "1-Jan-0000", "1-Jan-70", "1-Jan-197", "1-Jan-19700", "1-Jan-+970", "1-Jan--970",
		"1 Jan 1970", "1/Jan/1970", "1-01-1970", "1970-01-01", "Jan-1-1970", "1-January-1970", "+1-Jan-1970", "-1-Jan-1970", "1-Jan-1970 00:00", "1-Jan-1970(x)", "(x)1-Jan-1970", "1 -Jan-1970", "1- Jan-1970", "1-Jan- 1970", "\u0661-Jan-1970", "1-Jan-1970\x00",
	} {
		if got, is := ParseDay(s); got != 0 || is {
			t.Errorf("ParseDay(%q) = %d, %t", s, got, is)
		}
		checkDay(t, s)
	}
}

// P11.3: all days that there are, one behind the other, and none between.
func TestEachDay(t *testing.T) {
	days := twos()
	n := -719162
	for _, year := range fours()[1:] {
		for at := 0; at < len(monthNames); at += 3 {
			rest := "-" + monthNames[at:at+3] + "-" + year
			for _, day := range days[1:32] {
				got, is := ParseDay(day + rest)
				if is && got != n {
					t.Fatalf("ParseDay(%q) = %d, not %d", day+rest, got, n)
				}
				if is {
					n++
				}
			}
		}
	}
	if n != 2932897 {
		t.Errorf("the days end at %d", n)
	}
}

// The same calls have the same answers.
func TestSame(t *testing.T) {
	for i := range 3 {
		if got, is := Parse("Fri, 21 Nov 1997 09:55:06 EST"); got != (Time{880124106, -300}) || !is {
			t.Errorf("call %d: %v, %t", i, got, is)
		}
		if got, is := Parse("Fri, 21 Nov 1997 09:55 XYZ"); got != (Time{880106100, 0}) || !is {
			t.Errorf("call %d behind another: %v, %t", i, got, is)
		}
	}
}
