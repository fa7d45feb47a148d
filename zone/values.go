package zone

import (
	"strings"

	"traveldoc/api"
	"traveldoc/dates"
	"traveldoc/optical"
)

const (
	pairSize = 2
	// expiryFirst is the first year in which a document may expire.
	expiryFirst = 2000
)

// birthRanges are the least and the greatest number of the year, the month and the day of the month of a birth.
var birthRanges = [3][2]int{{0, 99}, {1, 12}, {1, 31}}

// digitOf returns the check digit of characters.
func digitOf(s string) string {
	digit, _ := optical.Digit(s)
	return digit
}

// unfilled returns the value of a field.
func unfilled(s string) string { return strings.TrimRight(s, filler) }

// isCode reports whether a string has at least one letter and no more than size, and nothing else.
func isCode(s string, size int) bool {
	return 1 <= len(s) && len(s) <= size && optical.Name(s) && !strings.Contains(s, " ")
}

func isSurname(s string) bool { return s != "" && optical.Name(s) }

func isNumber(s string) bool {
	return s != "" && optical.Valid(s) && !strings.Contains(s, filler)
}

// isBirth reports whether a string is a birth. It need not be a date, not even where all of it is known.
func isBirth(s string) bool {
	if len(s) != len(birthRanges)*pairSize {
		return false
	}
pairs:
	for i := range birthRanges {
		pair := s[i*pairSize : (i+1)*pairSize]
		n := 0
		for j := range pairSize {
			switch c := pair[j]; {
			case '0' <= c && c <= '9':
				n = n*10 + int(c-'0')
			case pair == filler+filler:
				continue pairs
			default:
				return false
			}
		}
		if n < birthRanges[i][0] || n > birthRanges[i][1] {
			return false
		}
	}
	return true
}

func isSex(s string) bool { return s == "M" || s == "F" || s == filler }

func isExpiry(s string) bool {
	_, e := dates.Parse(s, expiryFirst)
	return e == api.OK
}

// isAddition reports whether a string may be what a state adds, in a field of any size. Fillers at its ends could not be told from those around it.
func isAddition(s string) bool {
	return optical.Valid(s) && !strings.HasPrefix(s, filler) && !strings.HasSuffix(s, filler)
}

// divide returns what the fields of Number, its check digit and Optional contain.
func divide(number, optional string) (first, digit, rest string) {
	if len(number) <= numberSize {
		return number, digitOf(number), optional
	}
	return number[:numberSize], filler, number[numberSize:] + digitOf(number) + filler + optional
}

// join returns Number and Optional of what divide returns, with fillers behind it. A number in two fields needs one more character and its check digit in the second one.
func join(first, digit, rest string) (number, optional string, e api.Errno) {
	if digit != filler {
		return unfilled(first), unfilled(rest), api.OK
	}
	rest, optional, found := strings.Cut(rest, filler)
	last := len(rest) - 1
	if !found || last < 1 {
		return "", "", api.ErrForm
	}
	// The first field is taken whole: fillers at its end would be within the number, where Valid refuses them.
	number = first + rest[:last]
	if rest[last:] != digitOf(number) {
		return "", "", api.ErrDigit
	}
	return number, unfilled(optional), api.OK
}
