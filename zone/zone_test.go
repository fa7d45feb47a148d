package zone

import (
	"math/rand"
	"slices"
	"strings"
	"testing"
	"unsafe"

	"traveldoc/api"
)

// Help for the tests of this package.

// zoneOfTexts returns a zone with its fields in the order of the type.
func zoneOfTexts(format int, kind, state, surname, given, number, nation, birth, sex, expiry, optional, second string) api.Zone {
	return api.Zone{Format: format, Kind: kind, State: state, Surname: surname, Given: given, Number: number, Nation: nation,
		Birth: birth, Sex: sex, Expiry: expiry, Optional: optional, Second: second}
}

// sample is a zone with its lines, one behind the other with a space in between, and its key.
type sample struct {
	zone       api.Zone
	lines, key string
}

// samples returns zones of all formats. Those of ERIKSSON and STEVENSON are the published ones; the others were made with another language.
func samples() []sample {
	return []sample{
		{zoneOfTexts(3, "P", "UTO", "ERIKSSON", "ANNA MARIA", "L898902C", "UTO", "690806", "F", "940623", "ZE184226B", ""), "P<UTOERIKSSON<<ANNA<MARIA<<<<<<<<<<<<<<<<<<< L898902C<3UTO6908061F9406236ZE184226B<<<<<14", "L898902C<369080619406236"},
		{zoneOfTexts(3, "P", "UTO", "ERIKSSON", "ANNA MARIA", "L898902C3", "UTO", "740812", "F", "120415", "ZE184226B", ""), "P<UTOERIKSSON<<ANNA<MARIA<<<<<<<<<<<<<<<<<<< L898902C36UTO7408122F1204159ZE184226B<<<<<10", "L898902C3674081221204159"},
		{zoneOfTexts(3, "PD", "D", "MUELLER WEISS", "", "7", "D", "<<<<<<", "<", "000229", "", ""), "PDD<<MUELLER<WEISS<<<<<<<<<<<<<<<<<<<<<<<<<< 7<<<<<<<<9D<<<<<<<<0<0002299<<<<<<<<<<<<<<<4", "7<<<<<<<<9<<<<<<00002299"},
		{zoneOfTexts(3, "PO", "GBR", strings.Repeat("A", 39), "", "ABCDEFGHI", "GB", "99<<31", "M", "991231", "A<1<<<<<<<<<ZZ", ""), "POGBRAAAAAAAAAAAAAAAAAAAAAAAAAAAAAAAAAAAAAAA ABCDEFGHI4GB<99<<310M9912315A<1<<<<<<<<<ZZ16", "ABCDEFGHI499<<3109912315"},
		{zoneOfTexts(2, "I", "UTO", "ERIKSSON", "ANNA MARIA", "D23145890", "UTO", "740812", "F", "120415", "", ""), "I<UTOERIKSSON<<ANNA<MARIA<<<<<<<<<<< D231458907UTO7408122F1204159<<<<<<<6", "D23145890774081221204159"},
		{zoneOfTexts(2, "I", "UTO", "STEVENSON", "PETER JOHN", "D23145890734", "UTO", "340712", "M", "950712", "", ""), "I<UTOSTEVENSON<<PETER<JOHN<<<<<<<<<< D23145890<UTO3407127M95071227349<<<8", "D23145890734934071279507122"},
		{zoneOfTexts(2, "ID", "F", "A", "", "Z", "F", "00<<<<", "<", "500101", "1A<<<Z9", ""), "IDF<<A<<<<<<<<<<<<<<<<<<<<<<<<<<<<<< Z<<<<<<<<5F<<00<<<<0<50010131A<<<Z97", "Z<<<<<<<<500<<<<05001013"},
		{zoneOfTexts(2, "AC", "XXA", strings.Repeat("S", 31), "", "ABCDE12345FGHI", "XXB", "<<12<<", "M", "241231", "", ""), "ACXXASSSSSSSSSSSSSSSSSSSSSSSSSSSSSSS ABCDE1234<XXB<<12<<5M24123115FGHI5<8", "ABCDE12345FGHI5<<12<<52412311"},
		{zoneOfTexts(2, "AC", "XXA", strings.Repeat("S", 20), strings.Repeat("T", 9), "ABCDE12345", "XXB", "<<<<01", "M", "241231", "XY9Z", ""), "ACXXASSSSSSSSSSSSSSSSSSSS<<TTTTTTTTT ABCDE1234<XXB<<<<011M241231151<XY9Z1", "ABCDE123451<<<<0112412311"},
		{zoneOfTexts(1, "I", "UTO", "ERIKSSON", "ANNA MARIA", "D23145890", "UTO", "740812", "F", "120415", "", ""), "I<UTOD231458907<<<<<<<<<<<<<<< 7408122F1204159UTO<<<<<<<<<<<6 ERIKSSON<<ANNA<MARIA<<<<<<<<<<", "D23145890774081221204159"},
		{zoneOfTexts(1, "I", "UTO", "STEVENSON", "PETER JOHN", "D23145890734", "UTO", "340712", "M", "950712", "", ""), "I<UTOD23145890<7349<<<<<<<<<<< 3407127M9507122UTO<<<<<<<<<<<2 STEVENSON<<PETER<JOHN<<<<<<<<<", "D23145890734934071279507122"},
		{zoneOfTexts(1, "C", "AUT", strings.Repeat("S", 27), "T", "ABCDEFGHI1234567890Z", "AUT", "000101", "<", "000101", "Q8", "12<45678<01"), "C<AUTABCDEFGHI<1234567890Z6<Q8 0001018<0001018AUT12<45678<014 SSSSSSSSSSSSSSSSSSSSSSSSSSS<<T", "ABCDEFGHI1234567890Z600010180001018"},
		{zoneOfTexts(1, "CA", "B", "VAN DEN BERG", "X Y", "K9", "NLD", "<<0631", "F", "310731", "123456789ABCDEF", "ZZZZZZZZZZZ"), "CAB<<K9<<<<<<<7123456789ABCDEF <<06312F3107313NLDZZZZZZZZZZZ9 VAN<DEN<BERG<<X<Y<<<<<<<<<<<<<", "K9<<<<<<<7<<063123107313"},
		{zoneOfTexts(1, "CA", "B", "VAN DEN BERG", "X Y", "ABCDEFGHI2", "NLD", "<<0631", "F", "310731", "B<CDEFGHIJKL", "A"), "CAB<<ABCDEFGHI<28<B<CDEFGHIJKL <<06312F3107313NLDA<<<<<<<<<<6 VAN<DEN<BERG<<X<Y<<<<<<<<<<<<<", "ABCDEFGHI28<<063123107313"},
	}
}

// book, small and card are ordinary zones; those with long numbers have a part of them in the field of Optional.
func book() api.Zone { return samples()[0].zone }

func small() api.Zone { return samples()[6].zone }

func smallLong() api.Zone { return samples()[8].zone }

func card() api.Zone { return samples()[12].zone }

func cardLong() api.Zone { return samples()[11].zone }

// build returns the lines of a zone that is valid.
func build(t *testing.T, z api.Zone) []string {
	t.Helper()
	lines, e := Build(z)
	if e != api.OK {
		t.Fatalf("Build(%+v) returns %d", z, e)
	}
	return lines
}

// pick returns one of some texts.
func pick(r *rand.Rand, texts ...string) string { return texts[r.Intn(len(texts))] }

// text returns up to n bytes of an alphabet, most often a few.
func text(r *rand.Rand, alphabet string, least, most int) string {
	b := make([]byte, least+r.Intn(most-least+1))
	for i := range b {
		b[i] = alphabet[r.Intn(len(alphabet))]
	}
	return string(b)
}

const (
	letters    = "ABCDEFGHIJKLMNOPQRSTUVWXYZ"
	characters = "0123456789" + letters
)

// randomName returns a name with words.
func randomName(r *rand.Rand) string {
	words := []string{text(r, letters, 1, 12)}
	for r.Intn(2) == 0 {
		words = append(words, text(r, letters, 1, 9))
	}
	return strings.Join(words, " ")
}

// randomAddition returns what a state may add, of at most n characters.
func randomAddition(r *rand.Rand, n int) string {
	return strings.Trim(text(r, characters+"<<<<<<<<", 0, max(n, 0)), "<")
}

// randomZone returns a zone that is valid.
func randomZone(r *rand.Rand) api.Zone {
	z := api.Zone{
		Format: formats()[r.Intn(3)], Kind: text(r, letters, 1, 2), State: text(r, letters, 1, 3), Nation: text(r, letters, 1, 3), Surname: randomName(r),
		Birth:  pick(r, "<<", "00", "48", "99") + pick(r, "<<", "01", "09", "12") + pick(r, "<<", "01", "30", "31"),
		Sex:    pick(r, "M", "F", "<"),
		Expiry: pick(r, "00", "27", "99") + pick(r, "01", "11", "12") + pick(r, "01", "09", "30"),
	}
	if r.Intn(4) > 0 {
		z.Given = randomName(r)
	}
	z.Number = text(r, characters, 1, longest[z.Format])
	room := spans(z.Format)["Optional"].size
	if len(z.Number) > 9 {
		room -= len(z.Number) - 7
	}
	z.Optional = randomAddition(r, room)
	if z.Format == api.FormatCard {
		z.Second = randomAddition(r, 11)
	}
	return z
}

// namesFit reports whether nothing of the names is cut.
func namesFit(z api.Zone) bool {
	size := len(z.Surname)
	if z.Given != "" {
		size += len("<<") + len(z.Given)
	}
	return size <= spans(z.Format)["Names"].size
}

// P11.2

func TestBuildLiterals(t *testing.T) {
	for _, x := range samples() {
		if lines, e := Build(x.zone); strings.Join(lines, " ") != x.lines || e != api.OK {
			t.Errorf("Build(%+v) = %q, %d, want %q", x.zone, lines, e, x.lines)
		}
	}
}

func TestBuildAsDefined(t *testing.T) {
	r := rand.New(rand.NewSource(11))
	for range 20000 {
		z := randomZone(r)
		if lines, e := Build(z); !slices.Equal(lines, definedBuild(z)) || e != api.OK {
			t.Fatalf("Build(%+v) = %q, %d, want %q", z, lines, e, definedBuild(z))
		}
	}
}

func TestBuildCutsNames(t *testing.T) {
	for format, width := range map[int]int{api.FormatBook: 39, api.FormatSmall: 31, api.FormatCard: 30} {
		for _, x := range []struct{ surname, given, want string }{
			{strings.Repeat("A", width), "", strings.Repeat("A", width)},
			{strings.Repeat("A", width), "B", strings.Repeat("A", width)},
			{strings.Repeat("A", width+1), "", strings.Repeat("A", width)},
			{strings.Repeat("A", 1000), "B", strings.Repeat("A", width)},
			{strings.Repeat("A", width-1), "B", strings.Repeat("A", width-1) + "<"},
			{strings.Repeat("A", width-2), "B", strings.Repeat("A", width-2) + "<<"},
			{strings.Repeat("A", width-3), "B", strings.Repeat("A", width-3) + "<<B"},
			{strings.Repeat("A", width-3), "BC", strings.Repeat("A", width-3) + "<<B"},
			{"A B", strings.Repeat("C", width-6) + " D", "A<B<<" + strings.Repeat("C", width-6) + "<"},
			{"A", "", padded("A", width)},
		} {
			z := api.Zone{Format: format, Kind: "P", State: "D", Surname: x.surname, Given: x.given, Number: "1", Nation: "D", Birth: "<<<<<<", Sex: "<", Expiry: "300101"}
			if got := field(build(t, z), format, "Names"); got != x.want {
				t.Errorf("format %d: the names %.50q and %.50q are %q, want %q", format, x.surname, x.given, got, x.want)
			}
		}
	}
}

// Where a number goes that has one character more than its field, and one that has as many.
func TestBuildPutsLongNumbersIntoTwoFields(t *testing.T) {
	for _, x := range []struct {
		zone                          api.Zone
		number                        string
		first, digit, optional, wants string
	}{
		{card(), "123456789", "123456789", "7", "AB", "AB<<<<<<<<<<<<<"},
		{card(), "1234567890", "123456789", "<", "AB", "07<AB<<<<<<<<<<"},
		{card(), "1234567890", "123456789", "<", "", "07<<<<<<<<<<<<<"},
		{card(), "1234567890", "123456789", "<", "ABCDEFGHIJKL", "07<ABCDEFGHIJKL"},
		{card(), "12345678901234567890", "123456789", "<", "AB", "012345678904<AB"},
		{small(), "123456789", "123456789", "7", "ABCDEFG", "ABCDEFG"},
		{small(), "1234567890", "123456789", "<", "ABCD", "07<ABCD"},
		{small(), "12345678901234", "123456789", "<", "", "012345<"},
	} {
		z := x.zone
		z.Number, z.Optional = x.number, x.optional
		lines := build(t, z)
		first, digit, optional := field(lines, z.Format, "Number"), field(lines, z.Format, "Number digit"), field(lines, z.Format, "Optional")
		if first != x.first || digit != x.digit || optional != x.wants {
			t.Errorf("the number %q and %q are %q, %q and %q, want %q, %q and %q", x.number, x.optional, first, digit, optional, x.first, x.digit, x.wants)
		}
	}
}

func TestBuildReturnsTheErrorOfValid(t *testing.T) {
	for _, x := range noZones() {
		if lines, e := Build(x.zone); lines != nil || e != x.e {
			t.Errorf("Build(%+v) = %q, %d, want %d", x.zone, lines, e, x.e)
		}
	}
}

// P11.4

func TestKeyLiterals(t *testing.T) {
	for _, x := range samples() {
		if key, e := Key(x.zone); key != x.key || e != api.OK {
			t.Errorf("Key(%+v) = %q, %d, want %q", x.zone, key, e, x.key)
		}
	}
}

func TestKeyAsDefined(t *testing.T) {
	r := rand.New(rand.NewSource(12))
	for range 20000 {
		z := randomZone(r)
		if key, e := Key(z); key != definedKey(z) || e != api.OK {
			t.Fatalf("Key(%+v) = %q, %d, want %q", z, key, e, definedKey(z))
		}
	}
}

func TestKeyOfNumbersOfEveryLength(t *testing.T) {
	for _, x := range []struct{ number, want string }{
		{"1", "1<<<<<<<<7"}, {"12", "12<<<<<<<3"}, {"12345678", "12345678<8"}, {"123456789", "1234567897"}, {"1234567890", "12345678907"}, {"12345678901234567890", "123456789012345678904"},
	} {
		z := cardLong()
		z.Number = x.number
		if key, e := Key(z); key != x.want+"00010180001018" || e != api.OK {
			t.Errorf("the key of %q is %q, %d, want it to begin with %q", x.number, key, e, x.want)
		}
	}
}

func TestKeyReturnsTheErrorOfValid(t *testing.T) {
	for _, x := range noZones() {
		if key, e := Key(x.zone); key != "" || e != x.e {
			t.Errorf("Key(%+v) = %q, %d, want %d", x.zone, key, e, x.e)
		}
	}
}

// Consequences

func TestParseOfBuild(t *testing.T) {
	r := rand.New(rand.NewSource(13))
	fit := map[bool]int{}
	for range 20000 {
		z := randomZone(r)
		fit[namesFit(z)]++
		back, e := Parse(build(t, z))
		if !namesFit(z) {
			// What is left of the names is all that differs.
			if !strings.HasPrefix(z.Surname, back.Surname) || !strings.HasPrefix(z.Given, back.Given) {
				t.Fatalf("Parse of Build(%+v) = %+v", z, back)
			}
			back.Surname, back.Given = z.Surname, z.Given
		}
		if back != z || e != api.OK {
			t.Fatalf("Parse of Build(%+v) = %+v, %d", z, back, e)
		}
	}
	if fit[true] < 1000 || fit[false] < 1000 {
		t.Error("names fit and are cut:", fit)
	}
}

func TestBuildOfParse(t *testing.T) {
	r := rand.New(rand.NewSource(14))
	parsed := 0
	for range 100000 {
		lines := randomLines(r)
		z, e := Parse(lines)
		if e != api.OK {
			continue
		}
		parsed++
		want := lines
		if z.Format == api.FormatBook && z.Optional == "" {
			want = put(lines, z.Format, "Optional digit", "<")
		}
		if back, e := Build(z); !slices.Equal(back, want) || e != api.OK {
			t.Fatalf("Build of Parse(%q) = %q, %d", lines, back, e)
		}
	}
	if parsed < 5000 {
		t.Error("lines that stand for a zone:", parsed)
	}
}

// Examples

func TestExamples(t *testing.T) {
	if lines := build(t, book()); lines[1] != "L898902C<3UTO6908061F9406236ZE184226B<<<<<14" {
		t.Error(lines)
	}
	if key, e := Key(book()); key != "L898902C<369080619406236" || e != api.OK {
		t.Error(key, e)
	}
	lines := build(t, book())
	for _, short := range [][]string{{lines[0], lines[1][:43]}, {lines[0][:43], lines[1]}, {lines[0][:43], lines[1][:43]}} {
		if z, e := Parse(short); z != (api.Zone{}) || e != api.ErrSize {
			t.Error(z, e)
		}
	}
}

// R2

// within reports whether a string lies in the memory of another one.
func within(s, memory string) bool {
	first, from := uintptr(unsafe.Pointer(unsafe.StringData(s))), uintptr(unsafe.Pointer(unsafe.StringData(memory)))
	return s != "" && from <= first && first < from+uintptr(len(memory))
}

// valuesOf returns the strings of a zone.
func valuesOf(z api.Zone) []string {
	return []string{z.Kind, z.State, z.Surname, z.Given, z.Number, z.Nation, z.Birth, z.Sex, z.Expiry, z.Optional, z.Second}
}

func TestArgumentsStayAndShareNoMemoryWithResults(t *testing.T) {
	for _, x := range samples() {
		lines := build(t, x.zone)
		key, _ := Key(x.zone)
		for _, value := range valuesOf(x.zone) {
			for _, result := range append(lines, key) {
				if within(result, value) || within(value, result) {
					t.Errorf("%q and %q share memory", result, value)
				}
			}
		}
		before := slices.Clone(lines)
		z, e := Parse(lines)
		if e != api.OK || !slices.Equal(lines, before) {
			t.Errorf("Parse(%q) returns %d and leaves %q", before, e, lines)
		}
		for i, value := range valuesOf(z) {
			for _, line := range lines {
				if within(value, line) {
					t.Errorf("%q is a part of %q", value, line)
				}
			}
			for _, other := range valuesOf(z)[i+1:] {
				if within(value, other) || within(other, value) {
					t.Errorf("%q and %q share memory", value, other)
				}
			}
		}
	}
}
