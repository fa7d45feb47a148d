package dates

const (
	firstYear      = 1900
	lastYear       = 2099
	yearMonths     = 12
	yearLength     = 365
	leapYearLength = 366
	february       = 2
	// maxMonths is the number of months from January 1900 to December 2099.
	maxMonths = 2400
)

// monthLengths are those of a year that is no leap year.
var monthLengths = [yearMonths]int{31, 28, 31, 30, 31, 30, 31, 31, 30, 31, 30, 31}

// isDate reports whether the calendar has a date in the years of the days.
func isDate(year, month, d int) bool {
	return firstYear <= year && year <= lastYear &&
		1 <= month && month <= yearMonths &&
		1 <= d && d <= monthLength(year, month)
}

func isLeap(year int) bool {
	return year%4 == 0 && (year%100 != 0 || year%400 == 0)
}

// monthLength returns the number of days of a month from 1 to 12.
func monthLength(year, month int) int {
	if month == february && isLeap(year) {
		return monthLengths[month-1] + 1
	}
	return monthLengths[month-1]
}

// yearStart returns the number of days ahead of a year, from 1900 to 2100.
func yearStart(year int) int {
	// Counting fourths from 1901 on leaves out 1900, the only year divisible by four here that is no leap year.
	leapYears := (year - firstYear - 1) / 4
	return (year-firstYear)*yearLength + leapYears
}
