package zone

import (
	"bytes"
	"slices"
	"strings"

	"traveldoc/api"
)

// The fields of the lines.
const (
	fieldKind = iota
	fieldState
	fieldNames
	fieldNumber
	fieldNumberDigit
	fieldNation
	fieldBirth
	fieldBirthDigit
	fieldSex
	fieldExpiry
	fieldExpiryDigit
	fieldOptional
	fieldOptionalDigit
	fieldSecond
	fieldComposite
	fieldCount
)

const (
	filler = "<"
	// numberSize is the size of the field of Number in each format.
	numberSize = 9
	// maxSmallNumber leaves room for a check digit and a filler behind it in the field of Optional.
	maxSmallNumber = 14
)

// place is a part of a line: its characters from an index up to another one, which is not included.
type place struct{ line, from, to int }

// layout is how the lines of a format are divided. A field that the format does not have takes no characters.
type layout struct {
	format, count, width int
	maxNumber            int
	places               [fieldCount]place
	// composed are the parts that the composite check digit is computed of.
	composed [4]place
}

// layoutOf returns the layout of a format, if there is one.
func layoutOf(format int) (layout, bool) {
	l := layout{}
	switch format {
	case api.FormatBook:
		l = twoLines(api.ZoneBook, api.ZoneBook-2)
		l.maxNumber = numberSize
	case api.FormatSmall:
		l = twoLines(api.ZoneSmall, api.ZoneSmall-1)
		l.maxNumber = maxSmallNumber
	case api.FormatCard:
		l = threeLines()
		l.maxNumber = api.MaxNumber
	default:
		return layout{}, false
	}
	l.format = format
	return l, true
}

// twoLines returns the layout of a format whose field of Optional goes up to an index of the second line. What is left ahead of the composite check digit is the check digit of Optional.
func twoLines(width, optionalEnd int) layout {
	return layout{
		count: 2,
		width: width,
		places: [fieldCount]place{
			fieldKind:          {0, 0, 2},
			fieldState:         {0, 2, 5},
			fieldNames:         {0, 5, width},
			fieldNumber:        {1, 0, 9},
			fieldNumberDigit:   {1, 9, 10},
			fieldNation:        {1, 10, 13},
			fieldBirth:         {1, 13, 19},
			fieldBirthDigit:    {1, 19, 20},
			fieldSex:           {1, 20, 21},
			fieldExpiry:        {1, 21, 27},
			fieldExpiryDigit:   {1, 27, 28},
			fieldOptional:      {1, 28, optionalEnd},
			fieldOptionalDigit: {1, optionalEnd, width - 1},
			fieldComposite:     {1, width - 1, width},
		},
		composed: [4]place{{1, 0, 10}, {1, 13, 20}, {1, 21, width - 1}},
	}
}

func threeLines() layout {
	return layout{
		count: 3,
		width: api.ZoneCard,
		places: [fieldCount]place{
			fieldKind:        {0, 0, 2},
			fieldState:       {0, 2, 5},
			fieldNumber:      {0, 5, 14},
			fieldNumberDigit: {0, 14, 15},
			fieldOptional:    {0, 15, 30},
			fieldBirth:       {1, 0, 6},
			fieldBirthDigit:  {1, 6, 7},
			fieldSex:         {1, 7, 8},
			fieldExpiry:      {1, 8, 14},
			fieldExpiryDigit: {1, 14, 15},
			fieldNation:      {1, 15, 18},
			fieldSecond:      {1, 18, 29},
			fieldComposite:   {1, 29, 30},
			fieldNames:       {2, 0, 30},
		},
		composed: [4]place{{0, 5, 30}, {1, 0, 7}, {1, 8, 15}, {1, 18, 29}},
	}
}

// layoutFor returns the layout that lines of these lengths have, if there is one.
func layoutFor(lines []string) (layout, bool) {
	for _, format := range [...]int{api.FormatCard, api.FormatSmall, api.FormatBook} {
		l, _ := layoutOf(format)
		isOther := func(line string) bool { return len(line) != l.width }
		if len(lines) == l.count && !slices.ContainsFunc(lines, isOther) {
			return l, true
		}
	}
	return layout{}, false
}

// size returns the number of characters of a field.
func (l layout) size(field int) int {
	p := l.places[field]
	return p.to - p.from
}

// read returns the texts of the fields, with their fillers.
func (l layout) read(lines []string) map[int]string {
	texts := make(map[int]string, fieldCount)
	for field, p := range l.places {
		// A copy, because values that are taken of it are results.
		texts[field] = strings.Clone(lines[p.line][p.from:p.to])
	}
	return texts
}

// write returns the lines with these texts in their fields, and fillers elsewhere.
func (l layout) write(texts map[int]string) []string {
	rows := make([][]byte, l.count)
	for i := range rows {
		rows[i] = bytes.Repeat([]byte(filler), l.width)
	}
	// The order of the fields does not matter, because their places do not overlap.
	for field, text := range texts {
		p := l.places[field]
		copy(rows[p.line][p.from:p.to], text)
	}
	lines := make([]string, l.count)
	for i, row := range rows {
		lines[i] = string(row)
	}
	return lines
}

// composite returns the composite check digit of lines, whatever stands in its place.
func (l layout) composite(lines []string) string {
	text := ""
	for _, p := range l.composed {
		text += lines[p.line][p.from:p.to]
	}
	return digitOf(text)
}
