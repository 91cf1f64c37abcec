// Package chars is single bytes, and texts of few.
package chars

import "strconv"

const (
	// Bytes that stand alone: they end a token of MIME (RFC 2045, 5.1), or an atom of IMAP.
	aloneInMime = `()<>@,;:\"/[]?=`
	aloneInImap = `(){%*"\]`

	mostDigits = 10
	mostNumber = 4294967295
)

// Lower is a letter's small one; all else as it is.
func Lower(c byte) byte {
	if c >= 'A' && c <= 'Z' {
		return c - 'A' + 'a'
	}
	return c
}

// Fold is a text with small letters.
func Fold(s string) string {
	// Texts are bytes, not always UTF-8: runes would lose those that are none.
	small := []byte(s)
	for i, c := range small {
		small[i] = Lower(c)
	}
	return string(small)
}

// Same tells whether two texts are the same, but for small and capital letters.
func Same(a, b string) bool {
	if len(a) != len(b) {
		return false
	}
	for i := 0; i < len(a); i++ {
		if Lower(a[i]) != Lower(b[i]) {
			return false
		}
	}
	return true
}

// Token tells whether a byte may stand in a token of MIME.
func Token(c byte) bool { return seen(c) && !among(c, aloneInMime) }

// Atom tells whether a byte may stand in an atom of IMAP.
func Atom(c byte) bool { return seen(c) && !among(c, aloneInImap) }

// seen tells whether a byte is one of ASCII that leaves ink.
func seen(c byte) bool { return c >= 33 && c <= 126 }

// among tells whether a byte is one of a text of ASCII.
func among(c byte, text string) bool {
	for _, r := range text {
		if r == rune(c) {
			return true
		}
	}
	return false
}

// Blank tells whether a byte is a space or a tab.
func Blank(c byte) bool { return c == ' ' || c == '\t' }

// Trim is a text without blanks at both ends.
func Trim(s string) string {
	for len(s) > 0 && Blank(s[0]) {
		s = s[1:]
	}
	for len(s) > 0 && Blank(s[len(s)-1]) {
		s = s[:len(s)-1]
	}
	return s
}

// Number is a text of digits' number; false: it is none.
func Number(s string) (int, bool) {
	if len(s) < 1 || len(s) > mostDigits || s[0] == '0' && len(s) > 1 {
		return 0, false
	}
	// Ten digits are more than 32 bits hold, whatever an int is.
	var n int64
	for _, r := range s {
		if r < '0' || r > '9' {
			return 0, false
		}
		n = n*10 + int64(r-'0')
	}
	if n > mostNumber {
		return 0, false
	}
	return int(n), true
}

// Digits is a number's text.
func Digits(n int) string { return strconv.Itoa(n) }

// Split are the parts of a text between bytes of a kind.
func Split(s string, at byte) []string {
	var parts []string
	from := 0
	for i := 0; i < len(s); i++ {
		if s[i] == at {
			parts = append(parts, s[from:i])
			from = i + 1
		}
	}
	return append(parts, s[from:])
}
