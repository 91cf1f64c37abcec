package date

import (
	"strings"

	"letterbox/chars"
)

const (
	// Years of two digits that are below shortBelow are behind shortHundred, others a hundred years ahead of that.
	shortBelow   = 50
	shortHundred = 2000
	hundred      = 100
)

// namedZone is a zone's name, and how many hours it is away.
type namedZone struct {
	name  string
	hours int
}

// zones are those that are away by other than 0.
var zones = [8]namedZone{
	{"EST", -5}, {"EDT", -4}, {"CST", -6}, {"CDT", -5}, {"MST", -7}, {"MDT", -6}, {"PST", -8}, {"PDT", -7},
}

// piece takes what it is of off a text's front, and keeps what that tells; false: it isn't there.
type piece func(s string) (left string, is bool)

// row is pieces, one behind the other.
func row(pieces ...piece) piece {
	return func(s string) (string, bool) {
		for _, take := range pieces {
			left, is := take(s)
			if !is {
				return s, false
			}
			s = left
		}
		return s, true
	}
}

// perhaps is pieces, one behind the other, or nothing.
func perhaps(pieces ...piece) piece { return either(row(pieces...), row()) }

// either is the first of pieces that is there.
func either(pieces ...piece) piece {
	return func(s string) (string, bool) {
		for _, take := range pieces {
			if left, is := take(s); is {
				return left, true
			}
		}
		return s, false
	}
}

// whole tells whether a text is pieces, one behind the other, and nothing more.
func whole(s string, pieces ...piece) bool {
	left, is := row(pieces...)(s)
	return is && left == ""
}

// each tells whether texts are pieces, each a whole one, and nothing more.
func each(texts []string, pieces ...piece) bool {
	if len(texts) != len(pieces) {
		return false
	}
	for i, s := range texts {
		if !whole(s, pieces[i]) {
			return false
		}
	}
	return true
}

// mark is a text itself.
func mark(text string) piece {
	return func(s string) (string, bool) { return strings.CutPrefix(s, text) }
}

// digits are so many of a number.
func digits(long int, into *int) piece {
	return func(s string) (string, bool) {
		if len(s) < long {
			return s, false
		}
		n := 0
		for i := range long {
			if s[i] < '0' || s[i] > '9' {
				return s, false
			}
			n = 10*n + int(s[i]-'0')
		}
		*into = n
		return s[long:], true
	}
}

// shortYear is a year of two digits.
func shortYear(into *int) piece {
	return func(s string) (string, bool) {
		n := 0
		left, is := digits(2, &n)(s)
		if n >= shortBelow {
			n -= hundred
		}
		*into = n + shortHundred
		return left, is
	}
}

// monthName is that of a month: it tells its place.
func monthName(into *int) piece {
	return func(s string) (string, bool) {
		for place, month := range months {
			long := len(month.name)
			if len(s) >= long && chars.Same(s[:long], month.name) {
				*into = place
				return s[long:], true
			}
		}
		return s, false
	}
}

// away is a zone of hours and minutes: it tells minutes.
func away(into *int) piece {
	return func(s string) (string, bool) {
		hours, minutes := 0, 0
		left, is := row(either(mark("+"), mark("-")), digits(2, &hours), digits(2, &minutes))(s)
		if !is || hours > mostHour || minutes > mostMinute {
			return s, false
		}
		*into = hours*hourMinutes + minutes
		if s[0] == '-' {
			*into = -*into
		}
		return left, true
	}
}

// zoneName is all letters of a text's front: it tells a zone's minutes, 0 of those that aren't known.
func zoneName(into *int) piece {
	return func(s string) (string, bool) {
		long := 0
		for long < len(s) && letter(s[long]) {
			long++
		}
		for _, zone := range zones {
			if chars.Same(s[:long], zone.name) {
				*into = zone.hours * hourMinutes
			}
		}
		return s[long:], long > 0
	}
}

// letter tells whether a byte is one.
func letter(c byte) bool {
	c = chars.Lower(c)
	return c >= 'a' && c <= 'z'
}

// ofWeek tells whether a text is a day's of the week, whatever its name.
func ofWeek(s string) bool { return len(s) == 4 && s[3] == ',' }

// between are the parts of a text between blanks and comments.
func between(s string) []string {
	var texts []string
	for at := 0; at < len(s); {
		end := partEnd(s, at)
		if end > at {
			texts = append(texts, s[at:end])
		}
		at = behindBlank(s, end)
	}
	return texts
}

// partEnd is where the bytes from a place on that are no blanks or comments end.
func partEnd(s string, at int) int {
	for at < len(s) && !chars.Blank(s[at]) && s[at] != '(' {
		at++
	}
	return at
}

// behindBlank is where what follows on the blank or comment at a place begins: the text's end, if the comment isn't ended.
func behindBlank(s string, at int) int {
	open := 0
	for ; at < len(s); at++ {
		switch s[at] {
		case '\\':
			at++
		case '(':
			open++
		case ')':
			open--
		}
		if open == 0 {
			return at + 1
		}
	}
	return len(s)
}
