package reading

import (
	"slices"
	"strings"
)

const filler = '<'

// What may stand at a place besides a filler.
const (
	letterPlace = 'A'
	digitPlace  = '9'
	anyPlace    = 'X'
)

// The places of the fields that have the same size in each format.
const (
	kindPlaces   = "AA"
	statePlaces  = "AAA"
	numberPlaces = "XXXXXXXXX"
	nationPlaces = "AAA"
	birthPlaces  = "999999"
	sexPlaces    = "A"
	expiryPlaces = "999999"
	// checkPlaces are those of a check digit, also of the composite one.
	checkPlaces = "9"

	headPlaces   = kindPlaces + statePlaces
	bearerPlaces = numberPlaces + checkPlaces + nationPlaces + birthPlaces + checkPlaces + sexPlaces + expiryPlaces + checkPlaces
)

// formats returns the places of the lines of each format.
func formats() [3][]string {
	names := func(size int) string { return strings.Repeat(string(letterPlace), size) }
	addition := func(size int) string { return strings.Repeat(string(anyPlace), size) }
	return [...][]string{
		{
			headPlaces + names(39),
			bearerPlaces + addition(14) + checkPlaces + checkPlaces,
		},
		{
			headPlaces + names(31),
			bearerPlaces + addition(7) + checkPlaces,
		},
		{
			headPlaces + numberPlaces + checkPlaces + addition(15),
			birthPlaces + checkPlaces + sexPlaces + expiryPlaces + checkPlaces + nationPlaces + addition(11) + checkPlaces,
			names(30),
		},
	}
}

// placesFor returns the places of lines of these lengths, if a format has them. The lines are those of a zone or of a reading.
func placesFor[L string | []string](lines []L) ([]string, bool) {
	isAsLong := func(line L, places string) bool { return len(line) == len(places) }
	for _, places := range formats() {
		if slices.EqualFunc(lines, places, isAsLong) {
			return places, true
		}
	}
	return nil, false
}

// mayStand reports whether a character may stand at a place.
func mayStand(c, place byte) bool {
	isDigit := '0' <= c && c <= '9'
	switch place {
	case letterPlace:
		return !isDigit
	case digitPlace:
		return isDigit || c == filler
	}
	return true
}
