package reading

import (
	"math/rand"
	"slices"
	"strings"
	"testing"

	"traveldoc/api"
	"traveldoc/optical"
	"traveldoc/zone"
)

// Help for the tests of this package.

// The lines of zones of each format. Those of ERIKSSON and STEVENSON are the published ones.
func book() []string {
	return []string{"P<UTOERIKSSON<<ANNA<MARIA<<<<<<<<<<<<<<<<<<<", "L898902C<3UTO6908061F9406236ZE184226B<<<<<14"}
}

func small() []string {
	return []string{"I<UTOERIKSSON<<ANNA<MARIA<<<<<<<<<<<", "D231458907UTO7408122F1204159<<<<<<<6"}
}

// smallLong and cardLong have a number that goes on in the field of Optional.
func smallLong() []string {
	return []string{"I<UTOSTEVENSON<<PETER<JOHN<<<<<<<<<<", "D23145890<UTO3407127M95071227349<<<8"}
}

func card() []string {
	return []string{"CAB<<K9<<<<<<<7123456789ABCDEF", "<<06312F3107313NLDZZZZZZZZZZZ9", "VAN<DEN<BERG<<X<Y<<<<<<<<<<<<<"}
}

func cardLong() []string {
	return []string{"I<UTOD23145890<7349<<<<<<<<<<<", "3407127M9507122UTO<<<<<<<<<<<2", "STEVENSON<<PETER<JOHN<<<<<<<<<"}
}

func allLines() [][]string { return [][]string{book(), small(), smallLong(), card(), cardLong()} }

// formatOf returns the format of lines.
func formatOf(lines []string) int {
	var lengths []int
	for _, line := range lines {
		lengths = append(lengths, len(line))
	}
	return definedFormat(lengths...)
}

// sure returns the reading of lines without doubts.
func sure(lines []string) [][]string {
	l := make([][]string, len(lines))
	for i, line := range lines {
		for j := range len(line) {
			l[i] = append(l[i], line[j:j+1])
		}
	}
	return l
}

// doubt is a place with what may stand there.
type doubt struct {
	line, at int
	s        string
}

// doubtful returns the reading of lines with other strings at some places.
func doubtful(lines []string, doubts ...doubt) [][]string {
	l := sure(lines)
	for _, d := range doubts {
		l[d.line][d.at] = d.s
	}
	return l
}

// filled returns a reading of lines of these lengths with the same string at each place.
func filled(s string, lengths ...int) [][]string {
	l := make([][]string, len(lengths))
	for i, n := range lengths {
		l[i] = slices.Repeat([]string{s}, n)
	}
	return l
}

// copied returns a copy of a reading that shares no slice with it.
func copied(l [][]string) [][]string {
	out := make([][]string, len(l))
	for i := range l {
		out[i] = slices.Clone(l[i])
	}
	return out
}

func equal(a, b [][]string) bool { return slices.EqualFunc(a, b, slices.Equal) }

// shown returns a reading as text, with brackets where there is not just one character.
func shown(l [][]string) string {
	var rows []string
	for _, line := range l {
		row := ""
		for _, s := range line {
			if len(s) != 1 {
				s = "[" + s + "]"
			}
			row += s
		}
		rows = append(rows, row)
	}
	return strings.Join(rows, " ")
}

// text returns bytes of an alphabet.
func text(r *rand.Rand, alphabet string, least, most int) string {
	b := make([]byte, least+r.Intn(most-least+1))
	for i := range b {
		b[i] = alphabet[r.Intn(len(alphabet))]
	}
	return string(b)
}

func randomName(r *rand.Rand) string {
	words := []string{text(r, letters, 1, 12)}
	for r.Intn(2) == 0 {
		words = append(words, text(r, letters, 1, 9))
	}
	return strings.Join(words, " ")
}

// randomLines returns the lines of a zone.
func randomLines(t *testing.T, r *rand.Rand) []string {
	t.Helper()
	pick := func(texts ...string) string { return texts[r.Intn(len(texts))] }
	z := api.Zone{
		Format: formats3()[r.Intn(3)], Kind: text(r, letters, 1, 2), State: text(r, letters, 1, 3), Nation: text(r, letters, 1, 3), Surname: randomName(r),
		Number: text(r, digits+letters, 1, 9),
		Birth:  pick("<<", "00", "48", "99") + pick("<<", "01", "09", "12") + pick("<<", "01", "30", "31"),
		Sex:    pick("M", "F", "<"),
		Expiry: pick("00", "27", "99") + pick("01", "11", "12") + pick("01", "09", "30"),
	}
	if r.Intn(4) > 0 {
		z.Given = randomName(r)
	}
	if z.Format != api.FormatBook && r.Intn(3) == 0 {
		z.Number += text(r, digits+letters, 10-len(z.Number), 11-len(z.Number))
	} else {
		z.Optional = strings.Trim(text(r, characters+"<<<<", 0, 7), "<")
	}
	lines, e := zone.Build(z)
	if e != api.OK {
		t.Fatalf("Build(%+v) returns %d", z, e)
	}
	return lines
}

// randomReading returns a reading in which the characters of lines are among those of each string, most often with few further ones.
func randomReading(r *rand.Rand, lines []string) [][]string {
	l := sure(lines)
	doubts := r.Intn(7)
	if r.Intn(20) == 0 {
		doubts = 30
	}
	for range doubts {
		i := r.Intn(len(l))
		j := r.Intn(len(l[i]))
		s := []byte(l[i][j] + text(r, []string{characters, digits, "018BIO", lines[i], "a\xff\x00"}[r.Intn(5)], 0, 3))
		r.Shuffle(len(s), func(a, b int) { s[a], s[b] = s[b], s[a] })
		l[i][j] = string(s)
	}
	return l
}

// P12.1

func TestSimilarOfEveryByte(t *testing.T) {
	for i := range 256 {
		c := byte(i)
		want := definedSimilar[c]
		if want == "" && strings.IndexByte(characters, c) >= 0 {
			want = string(rune(c))
		}
		if got := Similar(c); got != want {
			t.Errorf("Similar(%q) = %q, want %q", c, got, want)
		}
	}
}

func TestSimilarOfMembersOfTheGroups(t *testing.T) {
	for _, group := range []string{"0DOQ", "1IL", "2Z", "5S", "6G", "8B"} {
		for i := range len(group) {
			if got := Similar(group[i]); got != group {
				t.Errorf("Similar(%q) = %q, want %q", group[i], got, group)
			}
		}
	}
}

func TestSimilarOfOthers(t *testing.T) {
	for c := range strings.SplitSeq("<3479ACEFHJKMNPRTUVWXY", "") {
		if got := Similar(c[0]); got != c {
			t.Errorf("Similar(%q) = %q", c, got)
		}
	}
	for _, c := range []byte("\x00 -/:;=>?@[`adgoqsz{\x7f\x80\xc3\xff") {
		if got := Similar(c); got != "" {
			t.Errorf("Similar(%q) = %q, though this is no character", c, got)
		}
	}
}

// Similarity goes both ways, and the strings ascend.
func TestSimilarIsAnEquivalence(t *testing.T) {
	for _, c := range []byte(characters) {
		s := []byte(Similar(c))
		if !slices.IsSorted(s) || len(slices.Compact(slices.Clone(s))) != len(s) || !slices.Contains(s, c) {
			t.Errorf("Similar(%q) = %q", c, s)
		}
		for _, other := range s {
			if Similar(other) != string(s) {
				t.Errorf("%q is similar to %q, and %q to %q", c, s, other, Similar(other))
			}
		}
	}
}

// Examples

func TestExamples(t *testing.T) {
	if got := Similar('O'); got != "0DOQ" {
		t.Errorf("Similar of O is %q", got)
	}
	for _, lines := range allLines() {
		for i, line := range lines {
			for j := range line {
				changed := slices.Clone(lines)
				changed[i] = line[:j] + "7" + line[j+1:]
				if l, e := Widen(changed); e != api.OK || l[i][j] != "7" {
					t.Errorf("Widen(%q) = %q, %d", changed, l, e)
				}
			}
		}
	}
	for _, s := range []string{"56", "65"} {
		l := doubtful(book(), doubt{1, 27, s})
		all, e := Readings(l)
		if e != api.OK || !equal(all, [][]string{book()}) {
			t.Errorf("Readings with %q = %q, %d", s, all, e)
		}
		if lines, e := Only(l); e != api.OK || !slices.Equal(lines, book()) {
			t.Errorf("Only with %q = %q, %d", s, lines, e)
		}
	}
}

// Consequences

func TestLinesAmongTheChoicesAreAmongTheReadings(t *testing.T) {
	r := rand.New(rand.NewSource(121))
	found := 0
	for range 3000 {
		lines := randomLines(t, r)
		l := randomReading(r, lines)
		if _, e := Count(l); e != api.OK {
			continue
		}
		found++
		all, e := Readings(l)
		if e != api.OK || !slices.ContainsFunc(all, func(x []string) bool { return slices.Equal(x, lines) }) {
			t.Fatalf("%q are not among the readings of %s: %q, %d", lines, shown(l), all, e)
		}
	}
	if found < 1000 {
		t.Error("readings that have few enough choices:", found)
	}
}

// Where the lines of a zone are widened, they are among the readings as well, because each of their characters may stand at its place.
func TestLinesAreAmongTheReadingsOfWiden(t *testing.T) {
	r := rand.New(rand.NewSource(122))
	counted, ambiguous := 0, 0
	for range 1000 {
		lines := randomLines(t, r)
		l, e := Widen(lines)
		if e != api.OK {
			t.Fatalf("Widen(%q) returns %d", lines, e)
		}
		for i, line := range lines {
			for j := range len(line) {
				if !strings.Contains(l[i][j], line[j:j+1]) {
					t.Fatalf("Widen(%q) = %s", lines, shown(l))
				}
			}
		}
		all, e := Readings(l)
		if e == api.ErrFull {
			continue
		}
		counted++
		if len(all) > 1 {
			ambiguous++
		}
		if e != api.OK || !slices.ContainsFunc(all, func(x []string) bool { return slices.Equal(x, lines) }) {
			t.Fatalf("%q are not among the readings of %s: %q, %d", lines, shown(l), all, e)
		}
	}
	if counted < 100 || ambiguous < 50 {
		t.Error("lines with few enough choices:", counted, "with several readings:", ambiguous)
	}
}

func TestOnlyOfTheLinesOfBuild(t *testing.T) {
	r := rand.New(rand.NewSource(123))
	for range 3000 {
		lines := randomLines(t, r)
		if got, e := Only(sure(lines)); e != api.OK || !slices.Equal(got, lines) {
			t.Fatalf("Only of %q = %q, %d", lines, got, e)
		}
	}
	for _, lines := range allLines() {
		if got, e := Only(sure(lines)); e != api.OK || !slices.Equal(got, lines) {
			t.Errorf("Only of %q = %q, %d", lines, got, e)
		}
	}
}

func TestFurtherCharactersGiveNoFewerReadings(t *testing.T) {
	r := rand.New(rand.NewSource(124))
	more := 0
	for range 1000 {
		lines := randomLines(t, r)
		l := randomReading(r, lines)
		before, e := Readings(l)
		if e != api.OK {
			continue
		}
		for range 4 {
			i := r.Intn(len(l))
			j := r.Intn(len(l[i]))
			l[i][j] += text(r, characters, 1, 2)
			after, e := Readings(l)
			if e != api.OK {
				break
			}
			for _, x := range before {
				if !slices.ContainsFunc(after, func(y []string) bool { return slices.Equal(x, y) }) {
					t.Fatalf("%q is no reading of %s any more", x, shown(l))
				}
			}
			if len(after) > len(before) {
				more++
			}
			before = after
		}
	}
	if more < 100 {
		t.Error("readings that grew:", more)
	}
}

// R2

func TestArgumentsStay(t *testing.T) {
	for _, lines := range allLines() {
		before := slices.Clone(lines)
		Widen(lines)
		if !slices.Equal(lines, before) {
			t.Errorf("Widen leaves %q of %q", lines, before)
		}
		l := doubtful(lines, doubt{0, 1, "<<A<"}, doubt{1, 3, "9879"}, doubt{len(lines) - 1, 0, "ZA0ZA"})
		was := copied(l)
		Count(l)
		Readings(l)
		Only(l)
		if !equal(l, was) {
			t.Errorf("%s is left of %s", shown(l), shown(was))
		}
	}
}

// scribble overwrites lines up to their capacity, so that memory that is shared shows itself.
func scribble(lines []string) {
	lines = lines[:cap(lines)]
	for i := range lines {
		lines[i] = "?"
	}
}

func TestResultsShareNoMemory(t *testing.T) {
	for _, lines := range allLines() {
		want, _ := Widen(lines)
		want = copied(want)
		for i := range want {
			l, _ := Widen(lines)
			scribble(l[i])
			again, _ := Widen(lines)
			if !equal(again, want) {
				t.Errorf("Widen(%q) keeps its results", lines)
			}
			for j := range want {
				if j != i && !slices.Equal(l[j], want[j]) {
					t.Errorf("the lines %d and %d of Widen(%q) share memory", i, j, lines)
				}
			}
		}
		// Each of the readings has other names.
		names := len(lines) / 3 * 2
		l := doubtful(lines, doubt{names, 5, "ABCDEF"})
		was := copied(l)
		all, _ := Readings(l)
		if len(all) != 6 {
			t.Fatalf("Readings(%s) = %q", shown(l), all)
		}
		kept := copied(all)
		for i := range all {
			scribble(all[i])
			for j := i + 1; j < len(all); j++ {
				if !slices.Equal(all[j], kept[j]) {
					t.Errorf("the readings %d and %d share memory", i, j)
				}
			}
		}
		if !equal(l, was) {
			t.Errorf("the readings of %s share memory with it", shown(was))
		}
		if again, _ := Readings(l); !equal(again, kept) {
			t.Errorf("Readings(%s) keeps its results", shown(l))
		}
		only, _ := Only(sure(lines))
		scribble(only)
		if again, _ := Only(sure(lines)); !slices.Equal(again, lines) {
			t.Errorf("Only keeps its result %q", lines)
		}
	}
}

// The characters of a reading are not limited to those that the layers below take: everything may stand in it, and nothing of it panics.
func TestAnyArgumentTerminates(t *testing.T) {
	r := rand.New(rand.NewSource(125))
	for range 2000 {
		l := make([][]string, r.Intn(5))
		for i := range l {
			l[i] = make([]string, []int{0, 1, 29, 30, 30, 30, 36, 36, 44, 44, 45}[r.Intn(11)])
			for j := range l[i] {
				l[i][j] = text(r, "\x00\xff\xc3\xa9<A0a", 0, 1+r.Intn(2))
			}
		}
		n, e := Count(l)
		wantN, want := definedCount(l)
		if n != wantN || e != want {
			t.Fatalf("Count(%q) = %d, %d, want %d, %d", l, n, e, wantN, want)
		}
		if all, f := Readings(l); f != want || len(all) != 0 {
			t.Fatalf("Readings(%q) = %q, %d, want %d", l, all, f, want)
		}
		if want == api.OK {
			want = api.ErrMissing
		}
		if lines, f := Only(l); f != want || lines != nil {
			t.Fatalf("Only(%q) = %q, %d, want %d", l, lines, f, want)
		}
	}
	for range 2000 {
		lines := make([]string, r.Intn(5))
		for i := range lines {
			n := []int{0, 1, 29, 30, 30, 30, 36, 36, 44, 44, 45}[r.Intn(11)]
			lines[i] = text(r, characters+[]string{"", "", "a", "\xff"}[r.Intn(4)], n, n)
		}
		l, e := Widen(lines)
		want, wantE := definedWiden(lines)
		if !equal(l, want) || e != wantE {
			t.Fatalf("Widen(%q) = %s, %d, want %s, %d", lines, shown(l), e, shown(want), wantE)
		}
	}
}

// The values of characters are those of layer 10.
func TestCharactersOfTheTests(t *testing.T) {
	for i := range 256 {
		if (optical.Value(byte(i)) >= 0) != (strings.IndexByte(characters, byte(i)) >= 0) {
			t.Errorf("%q", byte(i))
		}
	}
}
