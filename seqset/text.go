package seqset

import "letterbox/chars"

// lastText is how a set tells the last number, whatever that is.
const lastText = "*"

// rangeOf is the range of a part of a set's text; false: it is none.
func rangeOf(part string) (Range, bool) {
	ends := chars.Split(part, ':')
	if len(ends) > 2 {
		return Range{}, false
	}
	from, isFrom := numberOf(ends[0])
	to, isTo := numberOf(ends[len(ends)-1])
	return Range{From: from, To: to}, isFrom && isTo
}

// numberOf is the number of a text, 0 for the last one; false: it is none.
func numberOf(text string) (int, bool) {
	if text == lastText {
		return 0, true
	}
	n, is := chars.Number(text)
	return n, is && n > 0
}

// rangeText is a range's part of a set's text.
func rangeText(r Range) string {
	if r == alone(r.From) {
		return numberText(r.From)
	}
	return numberText(r.From) + ":" + numberText(r.To)
}

// numberText is a number's, or that of the last one.
func numberText(n int) string {
	if n < 1 {
		return lastText
	}
	return chars.Digits(n)
}
