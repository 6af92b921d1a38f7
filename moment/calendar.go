package moment

import (
	"sort"
)

const (
	lastYear = 9999
	months   = 12
	february = 2
	leapDay  = 29
	yearDays = 365

	// Each year that is divided by leapYears has a leap day, but for those that are divided by century and not by cycle.
	leapYears = 4
	century   = 100
	cycle     = 400

	// firstDay is how far 0001-01-01 lies behind 1970-01-01, allDays is how many days the years 1 to 9999 have.
	firstDay = -719162
	allDays  = 3652059
)

// monthDays are how many days the months have in a common year.
var monthDays = [months]int{31, 28, 31, 30, 31, 30, 31, 31, 30, 31, 30, 31}

// isLeap tells whether February of the year has 29 days.
func isLeap(year int) bool {
	return year%leapYears == 0 && year%century != 0 || year%cycle == 0
}

// daysIn is how many days the month of the year has.
func daysIn(year, month int) int {
	if month == february && isLeap(year) {
		return leapDay
	}
	return monthDays[month-1]
}

// isDay tells whether the years 1 to 9999 have such a day.
func isDay(year, month, day int) bool {
	return 1 <= year && year <= lastYear && 1 <= month && month <= months && 1 <= day && day <= daysIn(year, month)
}

// ahead is how many days lie ahead of the year, from 0001-01-01 on.
func ahead(year int) int {
	n := year - 1
	return yearDays*n + n/leapYears - n/century + n/cycle
}

// aheadInYear is how many days of the year lie ahead of the month.
func aheadInYear(year, month int) int {
	days := 0
	for m := 1; m < month; m++ {
		days += daysIn(year, m)
	}
	return days
}

// dateOf is the year, month and day that lies so many days behind 0001-01-01.
func dateOf(days int) [3]int {
	// The year is the first one whose next year begins behind the day.
	year := 1 + sort.Search(lastYear, func(i int) bool {
		return days < ahead(i+2)
	})
	month, left := 1, days-ahead(year)
	for left >= daysIn(year, month) {
		left -= daysIn(year, month)
		month++
	}
	return [3]int{year, month, left + 1}
}
