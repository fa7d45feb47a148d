package dates

import "traveldoc/api"

const (
	// textSize is the length of the text of a day: two digits each for year, month and day of the month.
	textSize = 6
	century  = 100
	// lastFirst is the last year that begins a hundred years of days.
	lastFirst = lastYear - century + 1
)

// Format returns a day as text.
func Format(day int) (string, api.Errno) {
	year, month, d, e := Parts(day)
	if e != api.OK {
		return "", e
	}
	text := make([]byte, 0, textSize)
	text = appendPair(text, year%century)
	text = appendPair(text, month)
	text = appendPair(text, d)
	return string(text), api.OK
}

// Parse reads a day with a two-digit year.
func Parse(s string, first int) (int, api.Errno) {
	if first < firstYear || first > lastFirst {
		return 0, api.ErrRange
	}
	pairs, ok := readPairs(s)
	if !ok {
		return 0, api.ErrForm
	}
	return Of(fullYear(pairs[0], first), pairs[1], pairs[2])
}

// fullYear returns the year with these last two digits among the hundred years that begin with first.
func fullYear(lastDigits, first int) int {
	year := first - first%century + lastDigits
	if year < first {
		year += century
	}
	return year
}

// appendPair appends two digits.
func appendPair(text []byte, n int) []byte {
	return append(text, '0'+byte(n/10), '0'+byte(n%10))
}

// readPairs returns the numbers that each two digits of a text stand for.
func readPairs(s string) ([textSize / 2]int, bool) {
	var pairs [textSize / 2]int
	if len(s) != textSize {
		return pairs, false
	}
	for i := range len(s) {
		if s[i] < '0' || s[i] > '9' {
			return [textSize / 2]int{}, false
		}
		pairs[i/2] = pairs[i/2]*10 + int(s[i]-'0')
	}
	return pairs, true
}
