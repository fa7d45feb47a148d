package zone

import (
	"fmt"
	"regexp"
	"strconv"
	"strings"
	"time"

	"traveldoc/api"
	"traveldoc/optical"
)

// The chapter's definitions, written out once more for the tests of this package: fields have names, and their places follow from the order and the sizes that the chapter lists.

// definedFields has the fields of each line, with their sizes.
var definedFields = map[int][]string{
	api.FormatBook: {
		"Kind 2, State 3, Names 39",
		"Number 9, Number digit 1, Nation 3, Birth 6, Birth digit 1, Sex 1, Expiry 6, Expiry digit 1, Optional 14, Optional digit 1, Composite digit 1",
	},
	api.FormatSmall: {
		"Kind 2, State 3, Names 31",
		"Number 9, Number digit 1, Nation 3, Birth 6, Birth digit 1, Sex 1, Expiry 6, Expiry digit 1, Optional 7, Composite digit 1",
	},
	api.FormatCard: {
		"Kind 2, State 3, Number 9, Number digit 1, Optional 15",
		"Birth 6, Birth digit 1, Sex 1, Expiry 6, Expiry digit 1, Nation 3, Second 11, Composite digit 1",
		"Names 30",
	},
}

// definedComposite has the line, the first and the last character that the composite check digit is computed of, counted from 1.
var definedComposite = map[int][][3]int{
	api.FormatBook:  {{2, 1, 10}, {2, 14, 20}, {2, 22, 43}},
	api.FormatSmall: {{2, 1, 10}, {2, 14, 20}, {2, 22, 35}},
	api.FormatCard:  {{1, 6, 30}, {2, 1, 7}, {2, 9, 15}, {2, 19, 29}},
}

// longest is the greatest number of characters of Number.
var longest = map[int]int{api.FormatBook: 9, api.FormatSmall: 14, api.FormatCard: 20}

func formats() []int { return []int{api.FormatCard, api.FormatSmall, api.FormatBook} }

// span is where a field is.
type span struct{ line, from, size int }

var spansOf = map[int]map[string]span{
	api.FormatBook:  definedSpans(api.FormatBook),
	api.FormatSmall: definedSpans(api.FormatSmall),
	api.FormatCard:  definedSpans(api.FormatCard),
}

// spans returns where the fields of a format are.
func spans(format int) map[string]span { return spansOf[format] }

func definedSpans(format int) map[string]span {
	all := map[string]span{}
	for line, list := range definedFields[format] {
		from := 0
		for field := range strings.SplitSeq(list, ", ") {
			cut := strings.LastIndex(field, " ")
			size, err := strconv.Atoi(field[cut+1:])
			if err != nil {
				panic(err)
			}
			all[field[:cut]] = span{line, from, size}
			from += size
		}
	}
	return all
}

// digit returns the check digit of characters, and what is no digit for others.
func digit(s string) string {
	d, e := optical.Digit(s)
	if e != api.OK {
		return "?"
	}
	return d
}

// padded returns s with fillers up to a size.
func padded(s string, size int) string { return s + strings.Repeat("<", size-len(s)) }

// trimmed returns s without the fillers at its end.
func trimmed(s string) string {
	for strings.HasSuffix(s, "<") {
		s = s[:len(s)-1]
	}
	return s
}

// field returns the text of a field.
func field(lines []string, format int, name string) string {
	at := spans(format)[name]
	return lines[at.line][at.from : at.from+at.size]
}

// put returns the lines with another text in a field, filled up with fillers.
func put(lines []string, format int, name, text string) []string {
	at, all := spans(format)[name], append([]string(nil), lines...)
	all[at.line] = all[at.line][:at.from] + padded(text, at.size) + all[at.line][at.from+at.size:]
	return all
}

func compositeOf(lines []string, format int) string {
	text := ""
	for _, x := range definedComposite[format] {
		text += lines[x[0]-1][x[1]-1 : x[2]]
	}
	return digit(text)
}

// sealed returns the lines with the check digits that belong to them. A filler stays where it may stand for one.
func sealed(lines []string, format int) []string {
	for _, name := range []string{"Number", "Birth", "Expiry", "Optional"} {
		at, ok := spans(format)[name+" digit"]
		text := field(lines, format, name)
		if !ok || name == "Optional" && trimmed(text) == "" || name == "Number" && field(lines, format, name+" digit") == "<" {
			continue
		}
		lines = put(lines, format, name+" digit", padded(digit(text), at.size))
	}
	return put(lines, format, "Composite digit", compositeOf(lines, format))
}

var (
	codeForm     = regexp.MustCompile(`\A[A-Z]+\z`)
	wordsForm    = regexp.MustCompile(`\A([A-Z]+( [A-Z]+)*)?\z`)
	numberForm   = regexp.MustCompile(`\A[A-Z0-9]+\z`)
	birthForm    = regexp.MustCompile(`\A([0-9][0-9]|<<)(0[1-9]|1[0-2]|<<)(0[1-9]|[12][0-9]|3[01]|<<)\z`)
	sexForm      = regexp.MustCompile(`\A[MF<]\z`)
	additionForm = regexp.MustCompile(`\A([A-Z0-9]([A-Z0-9<]*[A-Z0-9])?)?\z`)
	lineForm     = regexp.MustCompile(`\A[A-Z0-9<]*\z`)
	longForm     = regexp.MustCompile(`\A([A-Z0-9]+)([A-Z0-9])<([A-Z0-9<]*)\z`)
)

func isDay(s string) bool {
	_, err := time.Parse("20060102", "20"+s)
	return err == nil && len(s) == 6
}

// definedValid is P11.1.
func definedValid(z api.Zone) api.Errno {
	isShort := func(s string, n int) bool { return codeForm.MatchString(s) && len(s) <= n }
	at := spans(z.Format)
	room := at["Optional"].size
	if len(z.Number) > 9 {
		room -= len(z.Number) - 9 + len("d<")
	}
	for _, x := range []struct {
		wrong bool
		e     api.Errno
	}{
		{z.Format != api.FormatCard && z.Format != api.FormatSmall && z.Format != api.FormatBook, api.ErrInvalid},
		{!isShort(z.Kind, 2), api.ErrInvalid},
		{!isShort(z.State, 3), api.ErrInvalid},
		{!wordsForm.MatchString(z.Surname) || z.Surname == "", api.ErrInvalid},
		{!wordsForm.MatchString(z.Given), api.ErrInvalid},
		{!numberForm.MatchString(z.Number), api.ErrInvalid},
		{len(z.Number) > longest[z.Format], api.ErrSize},
		{!isShort(z.Nation, 3), api.ErrInvalid},
		{!birthForm.MatchString(z.Birth), api.ErrDate},
		{!sexForm.MatchString(z.Sex), api.ErrInvalid},
		{!isDay(z.Expiry), api.ErrDate},
		{!additionForm.MatchString(z.Optional), api.ErrInvalid},
		{!additionForm.MatchString(z.Second), api.ErrInvalid},
		{z.Second != "" && z.Format != api.FormatCard, api.ErrInvalid},
		{len(z.Optional) > room, api.ErrSize},
		{len(z.Second) > at["Second"].size, api.ErrSize},
	} {
		if x.wrong {
			return x.e
		}
	}
	return api.OK
}

// definedBuild is P11.2 for a zone that is valid.
func definedBuild(z api.Zone) []string {
	lines := map[int][]string{
		api.FormatBook:  {strings.Repeat("<", 44), strings.Repeat("<", 44)},
		api.FormatSmall: {strings.Repeat("<", 36), strings.Repeat("<", 36)},
		api.FormatCard:  {strings.Repeat("<", 30), strings.Repeat("<", 30), strings.Repeat("<", 30)},
	}[z.Format]
	names, _ := optical.Names(z.Surname, z.Given, spans(z.Format)["Names"].size)
	texts := map[string]string{"Kind": z.Kind, "State": z.State, "Names": names, "Number": z.Number, "Number digit": "0", "Nation": z.Nation, "Birth": z.Birth, "Sex": z.Sex, "Expiry": z.Expiry, "Optional": z.Optional}
	if len(z.Number) > 9 {
		texts["Number"], texts["Number digit"] = z.Number[:9], "<"
		texts["Optional"] = z.Number[9:] + digit(z.Number) + "<" + z.Optional
	}
	if z.Format == api.FormatCard {
		texts["Second"] = z.Second
	}
	for name, text := range texts {
		lines = put(lines, z.Format, name, text)
	}
	return sealed(lines, z.Format)
}

// definedFormat returns the format of lines by their lengths, or 0.
func definedFormat(lines []string) int {
	lengths := []int{}
	for _, line := range lines {
		lengths = append(lengths, len(line))
	}
	return map[string]int{"[44 44]": api.FormatBook, "[36 36]": api.FormatSmall, "[30 30 30]": api.FormatCard}[fmt.Sprint(lengths)]
}

// definedDigits reports whether the check digits of the lines are right.
func definedDigits(lines []string, format int) bool {
	want := sealed(lines, format)
	if format == api.FormatBook && trimmed(field(lines, format, "Optional")) == "" {
		if d := field(lines, format, "Optional digit"); d != "<" && d != "0" {
			return false
		}
	}
	return fmt.Sprint(want) == fmt.Sprint(lines)
}

// definedParse is P11.3.
func definedParse(lines []string) (api.Zone, api.Errno) {
	format := definedFormat(lines)
	if format == 0 {
		return api.Zone{}, api.ErrSize
	}
	if !lineForm.MatchString(strings.Join(lines, "")) {
		return api.Zone{}, api.ErrCharacter
	}
	if !definedDigits(lines, format) {
		return api.Zone{}, api.ErrDigit
	}
	get := func(name string) string { return field(lines, format, name) }
	z := api.Zone{
		Format: format, Kind: trimmed(get("Kind")), State: trimmed(get("State")), Number: trimmed(get("Number")), Nation: trimmed(get("Nation")),
		Birth: get("Birth"), Sex: get("Sex"), Expiry: get("Expiry"), Optional: trimmed(get("Optional")),
	}
	if format == api.FormatCard {
		z.Second = trimmed(get("Second"))
	}
	if get("Number digit") == "<" {
		parts := longForm.FindStringSubmatch(get("Optional"))
		if parts == nil || format == api.FormatBook {
			return api.Zone{}, api.ErrForm
		}
		z.Number, z.Optional = get("Number")+parts[1], trimmed(parts[3])
		if parts[2] != digit(z.Number) {
			return api.Zone{}, api.ErrDigit
		}
	}
	var e api.Errno
	if z.Surname, z.Given, _, e = optical.Split(get("Names")); e != api.OK {
		return api.Zone{}, e
	}
	if e := definedValid(z); e != api.OK {
		return api.Zone{}, e
	}
	return z, api.OK
}

// definedKey is P11.4 for a zone that is valid.
func definedKey(z api.Zone) string {
	number := z.Number
	for len(number) < 9 {
		number += "<"
	}
	return number + digit(number) + z.Birth + digit(z.Birth) + z.Expiry + digit(z.Expiry)
}
