package zone

import (
	"math/rand"
	"slices"
	"strings"
	"testing"

	"traveldoc/api"
)

// randomLines returns lines that stand for a zone, or for one but for a few characters. Their check digits are right most often.
func randomLines(r *rand.Rand) []string {
	z := randomZone(r)
	lines := definedBuild(z)
	for range r.Intn(3) {
		names := []string{"Kind", "State", "Names", "Number", "Number digit", "Nation", "Birth", "Sex", "Expiry", "Optional", "Optional digit", "Second"}
		at, ok := spans(z.Format)[pick(r, names...)]
		if !ok {
			continue
		}
		from := at.from + r.Intn(at.size)
		to := from + r.Intn(at.from+at.size-from) + 1
		line := lines[at.line]
		lines[at.line] = line[:from] + padded(text(r, pick(r, "<", "AB<", "01<", letters, characters), 0, to-from), to-from) + line[to:]
	}
	if r.Intn(8) > 0 {
		lines = sealed(lines, z.Format)
	}
	// A long number may still have a check digit of its own that is wrong.
	if rest, d, ok := strings.Cut(field(lines, z.Format, "Optional"), "<"); ok && len(rest) > 1 && r.Intn(2) == 0 && field(lines, z.Format, "Number digit") == "<" {
		number := field(lines, z.Format, "Number") + rest[:len(rest)-1]
		lines = sealed(put(lines, z.Format, "Optional", rest[:len(rest)-1]+digit(number)+"<"+d), z.Format)
	}
	if z.Format == api.FormatBook && z.Optional == "" && r.Intn(2) == 0 {
		lines = put(lines, z.Format, "Optional digit", "0")
	}
	return lines
}

// refuse fails the test if Parse does not return the error, or returns a zone with it.
func refuse(t *testing.T, lines []string, want api.Errno) {
	t.Helper()
	if z, e := Parse(lines); z != (api.Zone{}) || e != want {
		t.Errorf("Parse(%q) = %+v, %d, want %d", lines, z, e, want)
	}
}

// P11.3

func TestParseLiterals(t *testing.T) {
	for _, x := range samples() {
		if z, e := Parse(strings.Split(x.lines, " ")); z != x.zone || e != api.OK {
			t.Errorf("Parse(%q) = %+v, %d, want %+v", x.lines, z, e, x.zone)
		}
	}
}

func TestParseAsDefined(t *testing.T) {
	r := rand.New(rand.NewSource(16))
	results := map[api.Errno]int{}
	for range 100000 {
		lines := randomLines(r)
		want, wantE := definedParse(lines)
		z, e := Parse(lines)
		if z != want || e != wantE {
			t.Fatalf("Parse(%q) = %+v, %d, want %+v, %d", lines, z, e, want, wantE)
		}
		results[e]++
	}
	for _, e := range []api.Errno{api.OK, api.ErrDigit, api.ErrForm, api.ErrCharacter, api.ErrInvalid, api.ErrDate, api.ErrSize} {
		if results[e] < 5 {
			t.Errorf("there are %d lines with the error %d", results[e], e)
		}
	}
}

func TestParseRefusesOtherSizes(t *testing.T) {
	for _, lines := range [][]string{nil, {}, {""}, {"", ""}, {"", "", ""}} {
		refuse(t, lines, api.ErrSize)
	}
	for _, z := range []api.Zone{book(), small(), card()} {
		lines := build(t, z)
		for n := range lines {
			refuse(t, lines[:n], api.ErrSize)
			refuse(t, lines[n:n+1], api.ErrSize)
			for _, other := range []string{"", lines[n] + "<", lines[n][1:], lines[n][:len(lines[n])-1], lines[n] + "é", strings.Repeat("<", 1000)} {
				wrong := slices.Clone(lines)
				wrong[n] = other
				refuse(t, wrong, api.ErrSize)
			}
		}
		refuse(t, append(slices.Clone(lines), ""), api.ErrSize)
		refuse(t, append(slices.Clone(lines), lines[0]), api.ErrSize)
		refuse(t, append([]string{""}, lines...), api.ErrSize)
		refuse(t, []string{strings.Join(lines, "")}, api.ErrSize)
	}
}

// Only three numbers of lines with lengths that are equal make a format.
func TestParseOfLinesOfEveryLength(t *testing.T) {
	for first := range 50 {
		for second := range 50 {
			lines := []string{strings.Repeat("<", first), strings.Repeat("<", second)}
			for _, all := range [][]string{lines[:1], lines, {lines[0], lines[1], lines[0]}, {lines[0], lines[0], lines[1]}, {lines[1], lines[0], lines[0]}, {lines[0], lines[0], lines[1], lines[1]}} {
				_, want := definedParse(all)
				refuse(t, all, want)
				if (want == api.ErrSize) != (definedFormat(all) == 0) {
					t.Errorf("%q", all)
				}
			}
		}
	}
}

func TestParseRefusesOtherBytes(t *testing.T) {
	for _, z := range []api.Zone{book(), small(), smallLong(), card(), cardLong()} {
		lines := build(t, z)
		for n, line := range lines {
			for i := range line {
				for _, c := range []byte{0, ' ', '-', '/', ':', ';', '=', '>', '@', '[', '`', 'a', 'z', '{', 127, 128, 0xc3, 255} {
					wrong := slices.Clone(lines)
					wrong[n] = line[:i] + string([]byte{c}) + line[i+1:]
					refuse(t, wrong, api.ErrCharacter)
				}
			}
		}
	}
}

// Each check digit as each other character. A filler is no other one for an empty Optional, and it makes a number long.
func TestParseRefusesOtherDigits(t *testing.T) {
	for _, x := range samples() {
		lines := strings.Split(x.lines, " ")
		for name := range spans(x.zone.Format) {
			if !strings.HasSuffix(name, " digit") {
				continue
			}
			right := field(lines, x.zone.Format, name)
			for _, c := range characters + "<" {
				wrong := put(lines, x.zone.Format, name, string(c))
				if string(c) == right || name == "Optional digit" && right == "<" && c == '0' {
					continue
				}
				want := api.ErrDigit
				if name == "Number digit" && c == '<' {
					// The filler itself is not refused here, but the composite check digit is wrong with it unless the digit was 0.
					_, want = definedParse(wrong)
				}
				refuse(t, wrong, want)
			}
		}
	}
}

// Here the composite check digit is right, so that each other one shows on its own.
func TestParseRefusesEachDigitAlone(t *testing.T) {
	for _, x := range samples() {
		for name := range spans(x.zone.Format) {
			if !strings.HasSuffix(name, " digit") || name == "Composite digit" {
				continue
			}
			lines := strings.Split(x.lines, " ")
			right := field(lines, x.zone.Format, name)
			for _, c := range characters + "<" {
				if string(c) == right || name == "Optional digit" && right == "<" && c == '0' {
					continue
				}
				// With these, the lines stand for a long number, or for one that is no longer than its field.
				if name == "Number digit" && (c == '<' || string(c) == digit(field(lines, x.zone.Format, "Number"))) {
					continue
				}
				wrong := put(lines, x.zone.Format, name, string(c))
				refuse(t, put(wrong, x.zone.Format, "Composite digit", compositeOf(wrong, x.zone.Format)), api.ErrDigit)
			}
		}
	}
}

func TestParseOfAnEmptyOptional(t *testing.T) {
	z := book()
	z.Optional = ""
	lines := build(t, z)
	if d := field(lines, z.Format, "Optional digit"); d != "<" {
		t.Errorf("the check digit of no characters is %q", d)
	}
	for _, c := range characters + "<" {
		other := put(lines, z.Format, "Optional digit", string(c))
		other = put(other, z.Format, "Composite digit", compositeOf(other, z.Format))
		if c != '<' && c != '0' {
			refuse(t, other, api.ErrDigit)
		} else if back, e := Parse(other); back != z || e != api.OK {
			t.Errorf("Parse(%q) = %+v, %d, want %+v", other, back, e, z)
		}
	}
	// A filler stands for the check digit of no characters only, even where the check digit is 0.
	for _, optional := range []string{"A", "0", "00000", "A<<<<<<<<<<<<A", "5<<5"} {
		z.Optional = optional
		lines := put(build(t, z), z.Format, "Optional digit", "<")
		refuse(t, put(lines, z.Format, "Composite digit", compositeOf(lines, z.Format)), api.ErrDigit)
	}
}

// long returns the lines of a zone with a filler as the check digit of Number, and this in the field of Optional.
func long(t *testing.T, z api.Zone, first, optional string) []string {
	lines := put(build(t, z), z.Format, "Number", first)
	lines = put(lines, z.Format, "Number digit", "<")
	if _, ok := spans(z.Format)["Optional digit"]; ok {
		lines = put(lines, z.Format, "Optional digit", "<")
	}
	return sealed(put(lines, z.Format, "Optional", optional), z.Format)
}

func TestParseOfLongNumbers(t *testing.T) {
	for _, x := range []struct {
		zone             api.Zone
		first, rest      string
		number, optional string
		e                api.Errno
	}{
		{small(), "123456789", "07<", "1234567890", "", api.OK},
		{small(), "123456789", "07<ABCD", "1234567890", "ABCD", api.OK},
		{small(), "123456789", "07<A<BC", "1234567890", "A<BC", api.OK},
		{small(), "123456789", "012345<", "12345678901234", "", api.OK},
		{card(), "123456789", "07<", "1234567890", "", api.OK},
		{card(), "123456789", "012345678904<AB", "12345678901234567890", "AB", api.OK},
		{card(), "ABCDEFGHI", "1234567890Z6<Q8", "ABCDEFGHI1234567890Z", "Q8", api.OK},
		// Fewer than two characters ahead of the filler.
		{small(), "123456789", "", "", "", api.ErrForm},
		{small(), "123456789", "<07", "", "", api.ErrForm},
		{small(), "123456789", "<07<", "", "", api.ErrForm},
		{small(), "123456789", "7<", "", "", api.ErrForm},
		{small(), "123456789", "7<ABCDE", "", "", api.ErrForm},
		{small(), "123456789", "7<07<", "", "", api.ErrForm},
		{card(), "123456789", "", "", "", api.ErrForm},
		{card(), "123456789", "7", "", "", api.ErrForm},
		{card(), "123456789", "<", "", "", api.ErrForm},
		// No filler.
		{small(), "123456789", "0123452", "", "", api.ErrForm},
		{card(), "123456789", "012345678901237", "", "", api.ErrForm},
		{small(), "<<<<<<<<<", "ABCDEFG", "", "", api.ErrForm},
		// Another check digit.
		{small(), "123456789", "08<", "", "", api.ErrDigit},
		{small(), "123456789", "06<ABCD", "", "", api.ErrDigit},
		{small(), "123456789", "0A<", "", "", api.ErrDigit},
		{card(), "123456789", "012345678907<AB", "", "", api.ErrDigit},
		{card(), "123456789", "0AB<7", "", "", api.ErrDigit},
		// The number is too long.
		{card(), "123456789", "0123456789015<", "", "", api.ErrSize},
		{card(), "000000000", "0000000000000<", "", "", api.ErrSize},
		{card(), "000000000", "00000000000000<", "", "", api.ErrSize},
		// A number with fillers within, or Optional with one at its beginning.
		{small(), "<<<<<<<<<", "00<", "", "", api.ErrInvalid},
		{small(), "12345678<", "17<", "", "", api.ErrDigit},
		{small(), "12345678<", "18<", "", "", api.ErrDigit},
		{small(), "12345678<", "15<", "", "", api.ErrInvalid},
		{small(), "0000<0000", "00<", "", "", api.ErrInvalid},
		{small(), "<00000000", "00<", "", "", api.ErrInvalid},
		{small(), "123456789", "07<<ABC", "", "", api.ErrInvalid},
		{card(), "123456789", "07<<A", "", "", api.ErrInvalid},
		{card(), "123456789", "07<<<<<<<<<<<<A", "", "", api.ErrInvalid},
	} {
		lines := long(t, x.zone, x.first, x.rest)
		if x.e != api.OK {
			refuse(t, lines, x.e)
			continue
		}
		want := x.zone
		want.Number, want.Optional = x.number, x.optional
		if z, e := Parse(lines); z != want || e != api.OK {
			t.Errorf("Parse(%q) = %+v, %d, want %+v", lines, z, e, want)
		}
	}
}

// In a book there is no long number, whatever the field of Optional has.
func TestParseRefusesALongNumberInABook(t *testing.T) {
	for _, optional := range []string{"", "ZE184226B", "07<", "07<ABCDEF", "7<", "<07", "12345678901234", "08<"} {
		refuse(t, long(t, book(), "123456789", optional), api.ErrForm)
	}
}

// A check digit of 0 is a filler to the composite one: all others are right here.
func TestParseOfAFillerInPlaceOfADigit(t *testing.T) {
	for _, z := range []api.Zone{book(), small(), card()} {
		z.Number, z.Optional = "A", ""
		lines := build(t, z)
		if d := field(lines, z.Format, "Number digit"); d != "0" {
			t.Fatalf("the check digit of %q is %q", z.Number, d)
		}
		refuse(t, put(lines, z.Format, "Number digit", "<"), api.ErrForm)
	}
}

// What stands in a field, with all check digits right, and the error that comes of it.
func TestParseRefusesOtherTexts(t *testing.T) {
	for _, x := range []struct {
		name string
		e    api.Errno
		all  []string
	}{
		{"Names", api.ErrForm, []string{"", "<A", "<<A", "A<<<B", "A<<B<<C", "A<<B<C<<D"}},
		{"Names", api.ErrCharacter, []string{"1", "A1", "A<<B2", "<<1", "0<<<0"}},
		{"Kind", api.ErrInvalid, []string{"", "<P", "1", "P1", "0"}},
		{"State", api.ErrInvalid, []string{"", "<D", "D<D", "<<D", "D1", "123"}},
		{"Number", api.ErrInvalid, []string{"", "<A", "A<B", "<<<<<<<<A", "A<<<<<<<B"}},
		{"Nation", api.ErrInvalid, []string{"", "<D", "D<D", "<<D", "D1", "123"}},
		{"Birth", api.ErrDate, []string{"69080", "691306", "690832", "690006", "690800", "A90806", "6<0806", "<<<<<1"}},
		{"Sex", api.ErrInvalid, []string{"X", "0", "A", "9"}},
		{"Expiry", api.ErrDate, []string{"", "010229", "001301", "000132", "000431", "<<<<01", "00010", "A00101"}},
		{"Optional", api.ErrInvalid, []string{"<A", "<1", "<<<<<<1", "<A<B"}},
		{"Second", api.ErrInvalid, []string{"<A", "<1", "<<<<<<1", "<A<B"}},
	} {
		for _, base := range []api.Zone{book(), small(), card()} {
			if _, ok := spans(base.Format)[x.name]; !ok {
				continue
			}
			for _, s := range x.all {
				refuse(t, sealed(put(build(t, base), base.Format, x.name, s), base.Format), x.e)
			}
		}
	}
}

func TestParseOfFieldsWithFillers(t *testing.T) {
	for _, x := range []struct {
		name, text string
		set        func(*api.Zone, string)
	}{
		{"Kind", "A", setKind}, {"Kind", "AB", setKind}, {"State", "A", setState}, {"State", "AB", setState}, {"State", "ABC", setState},
		{"Nation", "A", setNation}, {"Nation", "AB", setNation}, {"Nation", "ABC", setNation},
		{"Number", "1", setNumber}, {"Number", "12345678", setNumber}, {"Number", "123456789", setNumber},
		{"Birth", "<<<<<<", setBirth}, {"Birth", "69<<<<", setBirth}, {"Birth", "6908<<", setBirth}, {"Birth", "<<08<<", setBirth}, {"Birth", "<<<<06", setBirth},
		{"Sex", "<", setSex}, {"Sex", "M", setSex}, {"Sex", "F", setSex},
		{"Optional", "", setOptional}, {"Optional", "A", setOptional}, {"Optional", "A<<B", setOptional}, {"Optional", "ABCDEFG", setOptional},
		{"Second", "", setSecond}, {"Second", "A", setSecond}, {"Second", "A<<B", setSecond}, {"Second", "ABCDEFGHIJK", setSecond},
	} {
		for _, want := range []api.Zone{book(), small(), card()} {
			if _, ok := spans(want.Format)[x.name]; !ok {
				continue
			}
			lines := put(build(t, want), want.Format, x.name, x.text)
			if x.name == "Optional" && want.Format == api.FormatBook {
				lines = put(lines, want.Format, "Optional digit", "<")
			}
			lines = sealed(lines, want.Format)
			x.set(&want, x.text)
			if z, e := Parse(lines); z != want || e != api.OK {
				t.Errorf("Parse(%q) = %+v, %d, want %+v", lines, z, e, want)
			}
		}
	}
}

// The errors from the last one to the first one are made in one zone after the other: each of them hides those behind it.
func TestParseReturnsTheFirstError(t *testing.T) {
	for _, base := range []api.Zone{smallLong(), cardLong()} {
		format := base.Format
		all := []struct {
			e     api.Errno
			spoil func(lines []string) []string
		}{
			{api.ErrSize, func(l []string) []string { l[0] += "<"; return l }},
			{api.ErrCharacter, func(l []string) []string { l[0] = "p" + l[0][1:]; return l }},
			{api.ErrDigit, func(l []string) []string { return put(l, format, "Birth digit", "A") }},
			{api.ErrForm, func(l []string) []string { return sealed(put(l, format, "Optional", "1<23"), format) }},
			{api.ErrDigit, func(l []string) []string { return sealed(put(l, format, "Optional", "AA<"), format) }},
			{api.ErrForm, func(l []string) []string { return put(l, format, "Names", "<A") }},
			{api.ErrInvalid, func(l []string) []string { return put(l, format, "Nation", "12") }},
			{api.ErrInvalid, func(l []string) []string { return put(l, format, "Sex", "X") }},
			{api.ErrDate, func(l []string) []string { return sealed(put(l, format, "Expiry", "010229"), format) }},
		}
		for set := 1; set < 1<<len(all); set++ {
			lines, want := build(t, base), api.OK
			for i := len(all) - 1; i >= 0; i-- {
				if set>>i&1 == 1 {
					lines, want = all[i].spoil(lines), all[i].e
				}
			}
			refuse(t, lines, want)
		}
	}
}
