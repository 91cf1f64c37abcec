package date

import (
	"regexp"
	"strconv"
	"strings"
	"testing"
	"time"
)

const (
	daySec = 86400
	// Seconds ahead of which, and at which, no year counts any more.
	firstSec, endSec = -62135596800, 253402300800
)

// monthNames are those of the months, in order.
const monthNames = "JanFebMarAprMayJunJulAugSepOctNovDec"

// commentForm is the form of a comment with others within it, some deep.
func commentForm(deep int) string {
	inner := ""
	for range deep {
		inner = `\((?:[^()\\]|\\(?s:.)` + inner + `)*(?:\)|\\?\z)`
		inner = "|" + inner
	}
	return inner[1:]
}

var (
	blankForm    = regexp.MustCompile(commentForm(8))
	dateForm     = regexp.MustCompile(`(?i)\A[ \t]*(?:(?s:[^ \t]{3}),[ \t]+)?(\d\d?)[ \t]+([a-z]{3})[ \t]+(\d{4}|\d{2})[ \t]+(\d\d):(\d\d)(?::(\d\d))?(?:[ \t]+([+-]\d{4}|[a-z]+))?[ \t]*\z`)
	internalForm = regexp.MustCompile(`(?i)\A"( \d|\d\d)-([a-z]{3})-(\d{4}) (\d\d):(\d\d):([0-5]\d) ([+-]\d{4})"\z`)
	dayForm      = regexp.MustCompile(`(?i)\A(?:"(\d\d?)-([a-z]{3})-(\d{4})"|(\d\d?)-([a-z]{3})-(\d{4}))\z`)
)

// bytewise is a text of which each byte is a character of its own: forms go by characters.
func bytewise(s string) string {
	var all []rune
	for i := range len(s) {
		// Letters of ASCII have others beyond it, that forms take for the same.
		all = append(all, rune(s[i])+rune(s[i])/128*0x3000)
	}
	return string(all)
}

// number is that of a text of digits, perhaps with a blank ahead.
func number(s string) int {
	n, _ := strconv.Atoi(strings.TrimSpace(s))
	return n
}

// dayOf is the number of a day that texts tell; false: there is none.
func dayOf(day, month string, year int) (int, bool) {
	at := strings.Index(strings.ToLower(monthNames), strings.ToLower(month))
	if at < 0 || at%3 != 0 || len(month) != 3 || year < 1 || year > 9999 {
		return 0, false
	}
	d := time.Date(year, time.Month(at/3+1), number(day), 0, 0, 0, 0, time.UTC)
	return int(d.Unix() / daySec), d.Day() == number(day) && d.Month() == time.Month(at/3+1)
}

// momentOf is the moment that texts tell: a day, a month, hours, minutes, seconds and a zone; false: there is none.
func momentOf(found []string, year, mostSecond int) (Time, bool) {
	n, is := dayOf(found[1], found[2], year)
	hour, minute, second := number(found[4]), number(found[5]), number(found[6])
	zone := 0
	if told := found[7]; strings.HasPrefix(told, "+") || strings.HasPrefix(told, "-") {
		hours, minutes := number(told[1:3]), number(told[3:])
		is = is && hours < 24 && minutes < 60
		zone, _ = strconv.Atoi(told[:1] + strconv.Itoa(60*hours+minutes))
	} else {
		zone = map[string]int{"EST": -300, "EDT": -240, "CST": -360, "CDT": -300, "MST": -420, "MDT": -360, "PST": -480, "PDT": -420}[strings.ToUpper(told)]
	}
	if !is || hour > 23 || minute > 59 || second > mostSecond {
		return Time{}, false
	}
	return Time{int64(n*daySec + hour*3600 + minute*60 + second - 60*zone), zone}, true
}

// wantedParse is what Parse should answer, by a form.
func wantedParse(s string) (Time, bool) {
	found := dateForm.FindStringSubmatch(blankForm.ReplaceAllString(bytewise(s), " "))
	if found == nil {
		return Time{}, false
	}
	year := number(found[3])
	if len(found[3]) == 2 && year < 50 {
		year += 2000
	} else if len(found[3]) == 2 {
		year += 1900
	}
	return momentOf(found, year, 60)
}

// wantedInternal is what ParseInternal should answer, by a form.
func wantedInternal(s string) (Time, bool) {
	found := internalForm.FindStringSubmatch(bytewise(s))
	if found == nil {
		return Time{}, false
	}
	return momentOf(found, number(found[3]), 59)
}

// wantedDay is what ParseDay should answer, by a form.
func wantedDay(s string) (int, bool) {
	found := dayForm.FindStringSubmatch(bytewise(s))
	if found == nil {
		return 0, false
	}
	n, is := dayOf(found[1]+found[4], found[2]+found[5], number(found[3]+found[6]))
	if !is {
		return 0, false
	}
	return n, true
}

// wantedText is what Internal should answer.
func wantedText(t Time) string {
	if t.Zone <= -1440 || t.Zone >= 1440 || t.Sec > 1<<40 || t.Sec < -1<<40 {
		return ""
	}
	at := time.Unix(t.Sec, 0).In(time.FixedZone("", 60*t.Zone))
	if at.Year() < 1 || at.Year() > 9999 {
		return ""
	}
	return at.Format(`"_2-Jan-2006 15:04:05 -0700"`)
}

// checkParse, checkInternal and checkDay hold what is read of a text against what is wanted.
func checkParse(t *testing.T, s string) {
	t.Helper()
	want, wantIs := wantedParse(s)
	if got, is := Parse(s); got != want || is != wantIs {
		t.Fatalf("Parse(%q) = %v, %t, not %v, %t", s, got, is, want, wantIs)
	}
}

func checkInternal(t *testing.T, s string) {
	t.Helper()
	want, wantIs := wantedInternal(s)
	if got, is := ParseInternal(s); got != want || is != wantIs {
		t.Fatalf("ParseInternal(%q) = %v, %t, not %v, %t", s, got, is, want, wantIs)
	}
}

func checkDay(t *testing.T, s string) {
	t.Helper()
	want, wantIs := wantedDay(s)
	if got, is := ParseDay(s); got != want || is != wantIs {
		t.Fatalf("ParseDay(%q) = %d, %t, not %d, %t", s, got, is, want, wantIs)
	}
}

// checkText holds what is told of a moment against what is wanted, and read back (P11.2, P11.4).
func checkText(t *testing.T, at Time) {
	t.Helper()
	told := Internal(at)
	if want := wantedText(at); told != want {
		t.Fatalf("Internal(%v) = %q, not %q", at, told, want)
	}
	if told == "" {
		return
	}
	if got, is := ParseInternal(told); got != at || !is || len(told) != 28 {
		t.Fatalf("ParseInternal(%q) = %v, %t, not %v", told, got, is, at)
	}
}

// nearly calls check with a text, and with all that are it but for a byte that is another, more, or missing, or for two that are turned round.
func nearly(t *testing.T, s string, check func(*testing.T, string)) {
	t.Helper()
	check(t, s)
	for at := range len(s) + 1 {
		for i := range 256 {
			c := string([]byte{byte(i)})
			check(t, s[:at]+c+s[at:])
			if at < len(s) {
				check(t, s[:at]+c+s[at+1:])
			}
		}
		check(t, s[:at])
		check(t, s[at:])
		if at < len(s) {
			check(t, s[:at]+s[at+1:])
		}
		if at+1 < len(s) {
			check(t, s[:at]+s[at+1:at+2]+s[at:at+1]+s[at+2:])
		}
	}
}

// texts are all texts of at most so many of the pieces.
func texts(pieces []string, most int) []string {
	all := []string{""}
	from := 0
	for range most {
		to := len(all)
		for _, text := range all[from:to] {
			for _, piece := range pieces {
				all = append(all, text+piece)
			}
		}
		from = to
	}
	return all
}

// twos are the texts 00 to 99.
func twos() []string {
	var all []string
	for n := range 100 {
		all = append(all, strconv.Itoa(100 + n)[1:])
	}
	return all
}

// fours are the texts 0000 to 9999.
func fours() []string {
	var all []string
	for n := range 10000 {
		all = append(all, strconv.Itoa(10000 + n)[1:])
	}
	return all
}
