package date

import "sort"

const (
	yearDays = 365
	mostYear = 9999
	// countedFrom is the year on whose first day days begin to count.
	countedFrom = 1970
	// february is the place of the month that may have a day more.
	february = 1
)

// yearMonth is a month's name, and how many days it has at least.
type yearMonth struct {
	name string
	days int
}

// months are the year's.
var months = [12]yearMonth{
	{"Jan", 31}, {"Feb", 28}, {"Mar", 31}, {"Apr", 30}, {"May", 31}, {"Jun", 30},
	{"Jul", 31}, {"Aug", 31}, {"Sep", 30}, {"Oct", 31}, {"Nov", 30}, {"Dec", 31},
}

// day is one of the calendar's: its month is a place among the months.
type day struct{ year, month, day int }

// number is how many days a day is behind the first one of 1970; false: there is no such day.
func (d day) number() (int, bool) {
	if d.year < 1 || d.year > mostYear || d.day < 1 || d.day > daysOf(d.year, d.month) {
		return 0, false
	}
	n := daysAhead(d.year) - daysAhead(countedFrom) + d.day - 1
	for month := range d.month {
		n += daysOf(d.year, month)
	}
	return n, true
}

// numbered is the day of a number; false: it is of no year that counts.
func numbered(n int) (day, bool) {
	n += daysAhead(countedFrom)
	if n < 0 || n >= daysAhead(mostYear+1) {
		return day{}, false
	}
	year := sort.Search(mostYear, func(year int) bool { return daysAhead(year+1) > n })
	n -= daysAhead(year)
	month := 0
	for n >= daysOf(year, month) {
		n -= daysOf(year, month)
		month++
	}
	return day{year: year, month: month, day: n + 1}, true
}

// daysAhead is how many days there are from year 1 on ahead of a year.
func daysAhead(year int) int {
	years := year - 1
	return years*yearDays + years/4 - years/100 + years/400
}

// daysOf is how many days a year's month has.
func daysOf(year, month int) int {
	if month == february && leap(year) {
		return months[month].days + 1
	}
	return months[month].days
}

// leap tells whether a year has a day more.
func leap(year int) bool { return year%4 == 0 && year%100 != 0 || year%400 == 0 }
