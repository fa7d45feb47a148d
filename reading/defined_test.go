package reading

import (
	"math/big"
	"slices"
	"strconv"
	"strings"

	"traveldoc/api"
	"traveldoc/zone"
)

// The chapter's definitions, written out once more for the tests of this package: fields have names, and what may stand at a place follows from the name of its field. Choices are counted with numbers of any size, and listed by division of a number.

const (
	digits     = "0123456789"
	letters    = "ABCDEFGHIJKLMNOPQRSTUVWXYZ"
	characters = digits + letters + "<"
)

func formats3() []int { return []int{api.FormatCard, api.FormatSmall, api.FormatBook} }

// definedFields has the fields of each line, with their sizes.
var definedFields = map[int][]string{
	api.FormatBook: {
		"Kind 2, State 3, Names 39",
		"Number 9, Number digit 1, Nation 3, Birth 6, Birth digit 1, Sex 1, Expiry 6, Expiry digit 1, Optional 14, Optional digit 1, Composite digit 1",
	},
	api.FormatSmall: {
		"Kind 2, State 3, Names 31",
		"Number 9, Number digit 1, Nation 3, Birth 6, Birth digit 1, Sex 1, Expiry 6, Expiry digit 1, Optional 7, Composite digit 1",
	},
	api.FormatCard: {
		"Kind 2, State 3, Number 9, Number digit 1, Optional 15",
		"Birth 6, Birth digit 1, Sex 1, Expiry 6, Expiry digit 1, Nation 3, Second 11, Composite digit 1",
		"Names 30",
	},
}

// fieldsOf has, for each line of a format and each of its places, the name of the field.
var fieldsOf = map[int][][]string{
	api.FormatBook:  definedNames(api.FormatBook),
	api.FormatSmall: definedNames(api.FormatSmall),
	api.FormatCard:  definedNames(api.FormatCard),
}

func definedNames(format int) [][]string {
	var all [][]string
	for _, list := range definedFields[format] {
		var line []string
		for field := range strings.SplitSeq(list, ", ") {
			cut := strings.LastIndex(field, " ")
			size, err := strconv.Atoi(field[cut+1:])
			if err != nil {
				panic(err)
			}
			line = append(line, slices.Repeat([]string{field[:cut]}, size)...)
		}
		all = append(all, line)
	}
	return all
}

// definedPermitted returns the characters that may stand in a field.
func definedPermitted(field string) string {
	switch {
	case field == "Birth", field == "Expiry", strings.HasSuffix(field, " digit"):
		return digits + "<"
	case field == "Kind", field == "State", field == "Nation", field == "Sex", field == "Names":
		return letters + "<"
	}
	return characters
}

// definedSimilar has the characters that are similar to others.
var definedSimilar = map[byte]string{
	'0': "0DOQ", 'D': "0DOQ", 'O': "0DOQ", 'Q': "0DOQ",
	'1': "1IL", 'I': "1IL", 'L': "1IL",
	'2': "2Z", 'Z': "2Z",
	'5': "5S", 'S': "5S",
	'6': "6G", 'G': "6G",
	'8': "8B", 'B': "8B",
}

// definedFit returns what Widen makes of a character in a field.
func definedFit(c byte, field string) string {
	similar, ok := definedSimilar[c]
	if !ok {
		return string(rune(c))
	}
	fit := ""
	for _, x := range similar {
		if strings.ContainsRune(definedPermitted(field), x) {
			fit += string(x)
		}
	}
	if fit == "" {
		return string(rune(c))
	}
	return fit
}

// definedFormat returns the format of lines of these lengths, or 0.
func definedFormat(lengths ...int) int {
	switch {
	case slices.Equal(lengths, []int{44, 44}):
		return api.FormatBook
	case slices.Equal(lengths, []int{36, 36}):
		return api.FormatSmall
	case slices.Equal(lengths, []int{30, 30, 30}):
		return api.FormatCard
	}
	return 0
}

// definedWiden is P12.2.
func definedWiden(lines []string) ([][]string, api.Errno) {
	var lengths []int
	for _, line := range lines {
		lengths = append(lengths, len(line))
	}
	format := definedFormat(lengths...)
	if format == 0 {
		return nil, api.ErrSize
	}
	var out [][]string
	for i, line := range lines {
		var row []string
		for j := range len(line) {
			if !strings.Contains(characters, line[j:j+1]) {
				return nil, api.ErrCharacter
			}
			row = append(row, definedFit(line[j], fieldsOf[format][i][j]))
		}
		out = append(out, row)
	}
	return out, api.OK
}

// bytesOf returns the different bytes of a string, in the order in which they occur.
func bytesOf(s string) string {
	different := ""
	for j := range len(s) {
		if !strings.Contains(different, s[j:j+1]) {
			different += s[j : j+1]
		}
	}
	return different
}

// definedCount is P12.3.
func definedCount(l [][]string) (int, api.Errno) {
	var lengths []int
	n := big.NewInt(1)
	for _, line := range l {
		lengths = append(lengths, len(line))
		for _, s := range line {
			n.Mul(n, big.NewInt(int64(len(bytesOf(s)))))
		}
	}
	switch {
	case definedFormat(lengths...) == 0, n.Sign() == 0:
		return 0, api.ErrForm
	case n.Cmp(big.NewInt(api.MaxChoices)) > 0:
		return 0, api.ErrFull
	}
	return int(n.Int64()), api.OK
}

// definedChoices returns the lines of each choice of a reading that Count counts, in any order.
func definedChoices(l [][]string) [][]string {
	count, _ := definedCount(l)
	var all [][]string
	for n := range count {
		var lines []string
		for _, row := range l {
			line := ""
			for _, s := range row {
				options := bytesOf(s)
				line += options[n%len(options):][:1]
				n /= len(options)
			}
			lines = append(lines, line)
		}
		all = append(all, lines)
	}
	return all
}

// definedReadings is P12.4 for Readings.
func definedReadings(l [][]string) ([][]string, api.Errno) {
	if _, e := definedCount(l); e != api.OK {
		return nil, e
	}
	var all [][]string
	for _, lines := range definedChoices(l) {
		if _, e := zone.Parse(lines); e == api.OK {
			all = append(all, lines)
		}
	}
	slices.SortFunc(all, slices.Compare[[]string])
	return all, api.OK
}
