// Package civil: days and dates of the proleptic Gregorian calendar (chapter 1).
package civil

import "convoker/api"

const (
	firstYear = 1
	lastYear  = 9999
	firstDay  = -719162 // 0001-01-01
	lastDay   = 2932896 // 9999-12-31
	day0      = 719528  // days from 0000-01-01 to 1970-01-01
)

// Leap tells whether the year has a 29th of February.
func Leap(y int) bool {
	return y%4 == 0 && (y%100 != 0 || y%400 == 0)
}

// Length is how many days the month has; 0 of no month.
func Length(y, m int) int {
	switch m {
	case 1, 3, 5, 7, 8, 10, 12:
		return 31
	case 4, 6, 9, 11:
		return 30
	case 2:
		if Leap(y) {
			return 29
		}
		return 28
	}
	return 0
}

// Valid tells whether the year, the month, and the day in it, are.
func Valid(y, m, d int) bool {
	return isYear(y) && d >= 1 && d <= Length(y, m)
}

// Days is the number of the date's day.
func Days(y, m, d int) (int, api.Errno) {
	if !Valid(y, m, d) {
		return 0, api.ErrRange
	}
	return newYear(y) + ahead(y, m) + d - 1, api.OK
}

// Date is the date of the day n.
func Date(n int) (int, int, int, api.Errno) {
	if !isDay(n) {
		return 0, 0, 0, api.ErrRange
	}
	y := yearOf(n)
	at := n - newYear(y)
	// No month is longer than 31 days, and all together lack 7 of that
	// at most: this is the month, or the one ahead of it.
	m := at/31 + 1
	if ahead(y, m+1) <= at {
		m++
	}
	return y, m, at - ahead(y, m) + 1, api.OK
}

// Weekday is the weekday of any day, 0 (Monday) to 6.
func Weekday(n int) int {
	// The rest is taken first, so that nothing wraps; 10 is 3 (a Thursday)
	// and a week, since the rest may be below 0.
	return (n%7 + 10) % 7
}

// YearDay is the day's year, and which day of it, from 1 on.
func YearDay(n int) (int, int, api.Errno) {
	if !isDay(n) {
		return 0, 0, api.ErrRange
	}
	y := yearOf(n)
	return y, n - newYear(y) + 1, api.OK
}

// Week is the year and the number of the day's week; weeks begin on wkst.
func Week(n, wkst int) (int, int, api.Errno) {
	if !isDay(n) || !isWeekday(wkst) {
		return 0, 0, api.ErrRange
	}
	// The year that has four days or more of a week has its fourth day,
	// and no other year has.
	fourth := n - since(wkst, Weekday(n)) + 3
	y := yearOf(fourth)
	return y, (fourth-newYear(y))/7 + 1, api.OK
}

// Weeks is how many weeks the year has: as many as fourth days of a week.
func Weeks(y, wkst int) (int, api.Errno) {
	if !isYear(y) || !isWeekday(wkst) {
		return 0, api.ErrRange
	}
	first := newYear(y)
	fourth := first + since(Weekday(first), (wkst+3)%7)
	return (newYear(y+1)-1-fourth)/7 + 1, api.OK
}

// AddMonths is the month by months later, or earlier.
func AddMonths(y, m, by int) (int, int, api.Errno) {
	if !isYear(y) || !isMonth(m) {
		return 0, 0, api.ErrRange
	}
	at := y*12 + m - 1
	// Held against what is left on each side, since a sum may wrap.
	if by < firstYear*12-at || by > lastYear*12+11-at {
		return 0, 0, api.ErrRange
	}
	at += by
	return at / 12, at%12 + 1, api.OK
}

// Nth is the day of the month that is its nth of that weekday; of 5 the last.
func Nth(y, m, nth, wday int) (int, api.Errno) {
	if !isYear(y) || !isMonth(m) || nth < 1 || nth > 5 || !isWeekday(wday) {
		return 0, api.ErrRange
	}
	first := newYear(y) + ahead(y, m)
	d := 1 + since(Weekday(first), wday) + 7*(nth-1)
	if d > Length(y, m) {
		d -= 7
	}
	return d, api.OK
}

func isYear(y int) bool {
	return y >= firstYear && y <= lastYear
}

func isMonth(m int) bool {
	return m >= 1 && m <= 12
}

func isDay(n int) bool {
	return n >= firstDay && n <= lastDay
}

func isWeekday(w int) bool {
	return w >= 0 && w <= 6
}

// since is how many days go from a weekday to the next other one, or 0.
func since(from, to int) int {
	return (to - from + 7) % 7
}

// newYear is the number of the first day of a year from 0 on: weeks may
// belong to the years 0 and 10000.
func newYear(y int) int {
	return 365*y + (y+3)/4 - (y+99)/100 + (y+399)/400 - day0
}

// yearOf is the year from 0 on that the day lies in.
func yearOf(n int) int {
	// 146097 days are 400 years; leap days lie unevenly in them, so that
	// this may be one year off.
	y := (n + day0) * 400 / 146097
	if newYear(y) > n {
		return y - 1
	}
	if newYear(y+1) <= n {
		return y + 1
	}
	return y
}

// ahead is how many days of the year lie ahead of the month; of a month 13,
// how many the year has.
func ahead(y, m int) int {
	// As if February had 30 days: the line 367/12 a month, rounded down,
	// has the 31s where they stand.
	n := (367*m - 362) / 12
	if m <= 2 {
		return n
	}
	if Leap(y) {
		return n - 1
	}
	return n - 2
}
