package reading

import (
	"math/rand"
	"slices"
	"strings"
	"testing"

	"traveldoc/api"
	"traveldoc/zone"
)

// everyByte has all bytes, in descending order.
func everyByte() string {
	var b []byte
	for i := range 256 {
		b = append(b, byte(255-i))
	}
	return string(b)
}

// refuse expects an error of Count, which is one of Readings and Only as well.
func refuse(t *testing.T, l [][]string, want api.Errno) {
	t.Helper()
	if n, e := Count(l); n != 0 || e != want {
		t.Errorf("Count(%.400s) = %d, %d, want %d", shown(l), n, e, want)
	}
	if all, e := Readings(l); all != nil || e != want {
		t.Errorf("Readings(%.400s) = %q, %d, want %d", shown(l), all, e, want)
	}
	if lines, e := Only(l); lines != nil || e != want {
		t.Errorf("Only(%.400s) = %q, %d, want %d", shown(l), lines, e, want)
	}
}

// expect expects a number of choices, and readings.
func expect(t *testing.T, l [][]string, count int, all ...[]string) {
	t.Helper()
	if n, e := Count(l); n != count || e != api.OK {
		t.Errorf("Count(%s) = %d, %d, want %d", shown(l), n, e, count)
	}
	if got, e := Readings(l); !equal(got, all) || e != api.OK {
		t.Errorf("Readings(%s) = %q, %d, want %q", shown(l), got, e, all)
	}
	var only []string
	e := api.OK
	switch len(all) {
	case 0:
		e = api.ErrMissing
	case 1:
		only = all[0]
	default:
		e = api.ErrAmbiguous
	}
	if got, f := Only(l); !slices.Equal(got, only) || f != e {
		t.Errorf("Only(%s) = %q, %d, want %q, %d", shown(l), got, f, only, e)
	}
}

// sealed returns the lines of a zone like that of lines.
func sealed(t *testing.T, lines []string, set func(z *api.Zone)) []string {
	t.Helper()
	z, e := zone.Parse(lines)
	if e != api.OK {
		t.Fatalf("Parse(%q) returns %d", lines, e)
	}
	set(&z)
	out, e := zone.Build(z)
	if e != api.OK {
		t.Fatalf("Build(%+v) returns %d", z, e)
	}
	return out
}

// P12.3

func TestCountOfIncompleteReadings(t *testing.T) {
	for _, s := range []string{"<", "A", "AB", everyByte()} {
		refuse(t, nil, api.ErrForm)
		refuse(t, [][]string{}, api.ErrForm)
		for _, lengths := range [][]int{
			{0}, {0, 0}, {0, 0, 0}, {1}, {30}, {36}, {44}, {88}, {72}, {90}, {30, 30}, {36, 36, 36}, {44, 44, 44}, {30, 30, 30, 30}, {44, 44, 44, 44},
			{36, 44}, {44, 36}, {30, 30, 36}, {36, 36, 30}, {44, 44, 30}, {44, 44, 0}, {36, 36, 0}, {30, 30, 30, 0}, {0, 44, 44},
			{43, 44}, {44, 43}, {43, 43}, {45, 44}, {44, 45}, {45, 45}, {35, 36}, {36, 35}, {35, 35}, {37, 36}, {36, 37}, {37, 37},
			{29, 30, 30}, {30, 29, 30}, {30, 30, 29}, {29, 29, 29}, {31, 30, 30}, {30, 31, 30}, {30, 30, 31}, {31, 31, 31},
		} {
			refuse(t, filled(s, lengths...), api.ErrForm)
		}
	}
}

func TestCountOfReadingsOfEveryLength(t *testing.T) {
	for first := range 50 {
		for second := range 50 {
			for _, l := range [][][]string{filled("0", first), filled("0", first, second), filled("0", first, first, second), filled("0", first, second, first), filled("0", second, first, first), filled("0", first, first, second, second)} {
				n, e := Count(l)
				if wantN, want := definedCount(l); n != wantN || e != want {
					t.Fatalf("Count(%s) = %d, %d, want %d, %d", shown(l), n, e, wantN, want)
				}
			}
		}
	}
}

func TestCountOfAnEmptyString(t *testing.T) {
	for _, lines := range allLines() {
		for i, line := range lines {
			for j := range line {
				refuse(t, doubtful(lines, doubt{i, j, ""}), api.ErrForm)
			}
		}
		refuse(t, doubtful(lines, doubt{0, 0, ""}, doubt{1, 5, ""}, doubt{len(lines) - 1, 29, ""}), api.ErrForm)
	}
	refuse(t, filled("", 44, 44), api.ErrForm)
	refuse(t, filled("", 36, 36), api.ErrForm)
	refuse(t, filled("", 30, 30, 30), api.ErrForm)
}

// That a reading is not complete hides that it has too many choices, wherever that is.
func TestCountReturnsTheFirstError(t *testing.T) {
	for _, lengths := range [][]int{{44, 44}, {36, 36}, {30, 30, 30}} {
		for i, n := range lengths {
			for _, j := range []int{0, n / 2, n - 1} {
				l := filled(characters, lengths...)
				refuse(t, l, api.ErrFull)
				l[i][j] = ""
				refuse(t, l, api.ErrForm)
			}
			l := filled(characters, lengths...)
			l[i] = append(l[i], "A")
			refuse(t, l, api.ErrForm)
			l[i] = l[i][:n-1]
			refuse(t, l, api.ErrForm)
		}
		refuse(t, filled(characters, lengths[:1]...), api.ErrForm)
	}
}

func TestCountOfDoubts(t *testing.T) {
	for _, lines := range allLines() {
		last := len(lines) - 1
		for _, x := range []struct {
			doubts []doubt
			want   int
		}{
			{nil, 1},
			{[]doubt{{0, 0, "A"}}, 1},
			{[]doubt{{0, 0, "AA"}}, 1},
			{[]doubt{{0, 0, strings.Repeat("A", 5000)}}, 1},
			{[]doubt{{0, 0, "AB"}}, 2},
			{[]doubt{{0, 0, "BA"}}, 2},
			{[]doubt{{0, 0, "ABA"}}, 2},
			{[]doubt{{0, 0, "ABBABAAB"}}, 2},
			{[]doubt{{0, 0, strings.Repeat("AB<", 5000)}}, 3},
			{[]doubt{{0, 0, characters}}, 37},
			{[]doubt{{0, 0, characters + characters}}, 37},
			{[]doubt{{last, 29, "01"}}, 2},
			{[]doubt{{0, 0, "ABC"}, {0, 29, "01"}}, 6},
			{[]doubt{{0, 0, "ABC"}, {1, 0, "1011"}, {last, 29, "7654"}}, 24},
			{[]doubt{{0, 0, "a"}}, 1},
			{[]doubt{{0, 0, "Aa"}}, 2},
			{[]doubt{{0, 0, "\x00\xff"}}, 2},
			{[]doubt{{0, 0, "é"}}, 2},
			{[]doubt{{0, 0, "éè"}}, 3},
			{[]doubt{{0, 0, everyByte()}}, 256},
			{[]doubt{{0, 0, everyByte() + everyByte()}}, 256},
		} {
			l := doubtful(lines, x.doubts...)
			if n, e := Count(l); n != x.want || e != api.OK {
				t.Errorf("Count(%.400s) = %d, %d, want %d", shown(l), n, e, x.want)
			}
		}
	}
}

func TestCountUpToMaxChoices(t *testing.T) {
	many := everyByte()
	for _, x := range []struct {
		sizes []int
		want  int
	}{
		{[]int{256, 16}, 4096},
		{[]int{16, 256}, 4096},
		{[]int{64, 64}, 4096},
		{[]int{16, 16, 16}, 4096},
		{[]int{4, 4, 4, 4, 4, 4}, 4096},
		{[]int{2, 2, 2, 2, 2, 2, 2, 2, 2, 2, 2, 2}, 4096},
		{[]int{63, 65}, 4095},
		{[]int{23, 178}, 4094},
		{[]int{17, 241}, 0},
		{[]int{241, 17}, 0},
		{[]int{256, 17}, 0},
		{[]int{16, 16, 17}, 0},
		{[]int{2, 2, 2, 2, 2, 2, 2, 2, 2, 2, 2, 3}, 0},
		{[]int{2, 2, 2, 2, 2, 2, 2, 2, 2, 2, 2, 2, 2}, 0},
		{[]int{256, 256}, 0},
		{[]int{1, 256, 1, 16, 1}, 4096},
	} {
		for _, base := range []func() [][]string{func() [][]string { return filled("<", 44, 44) }, func() [][]string { return filled("<", 36, 36) }, func() [][]string { return filled("<", 30, 30, 30) }} {
			// The places are at the beginning, or scattered over all lines.
			for _, step := range []int{1, 4} {
				l := base()
				for i, size := range x.sizes {
					if step == 1 {
						l[0][i] = many[:size]
					} else {
						l[i%len(l)][i/len(l)*step] = many[:size]
					}
				}
				want, e := x.want, api.OK
				if want == 0 {
					e = api.ErrFull
				}
				if n, f := Count(l); n != want || f != e {
					t.Errorf("Count with strings of %d characters = %d, %d, want %d, %d", x.sizes, n, f, want, e)
				}
			}
		}
	}
}

// Where a number of choices goes round in an int, it must not seem small.
func TestCountOfMoreThanAnIntCounts(t *testing.T) {
	for _, lengths := range [][]int{{44, 44}, {36, 36}, {30, 30, 30}} {
		total := 0
		for _, n := range lengths {
			total += n
		}
		for _, s := range []string{"01", "0123", "01234567", characters, everyByte()[:16], everyByte()} {
			refuse(t, filled(s, lengths...), api.ErrFull)
			for doubts := 13; doubts <= total; doubts++ {
				l := filled("<", lengths...)
				for i := range doubts {
					l[i%len(l)][i/len(l)] = s
				}
				if n, e := Count(l); n != 0 || e != api.ErrFull {
					t.Errorf("Count with %d strings of %d characters = %d, %d", doubts, len(s), n, e)
				}
			}
		}
	}
}

func TestCountAsDefined(t *testing.T) {
	r := rand.New(rand.NewSource(127))
	results := map[api.Errno]int{}
	for range 20000 {
		l := randomReading(r, randomLines(t, r))
		if r.Intn(10) == 0 {
			l[r.Intn(len(l))][r.Intn(30)] = ""
		}
		n, e := Count(l)
		if wantN, want := definedCount(l); n != wantN || e != want {
			t.Fatalf("Count(%s) = %d, %d, want %d, %d", shown(l), n, e, wantN, want)
		}
		results[e]++
	}
	for _, e := range []api.Errno{api.OK, api.ErrForm, api.ErrFull} {
		if results[e] < 100 {
			t.Error("results:", results)
		}
	}
}

// P12.4

func TestReadingsOfNone(t *testing.T) {
	for _, lines := range allLines() {
		// A zone has names, which no check digit is about.
		l := sure(lines)
		for i, row := range fieldsOf[formatOf(lines)] {
			for j, field := range row {
				if field == "Names" {
					l[i][j] = "<"
				}
			}
		}
		expect(t, l, 1)
		expect(t, doubtful(lines, doubt{0, 0, "1"}), 1)
		expect(t, doubtful(lines, doubt{0, 0, "12"}), 2)
		expect(t, doubtful(lines, doubt{0, 0, "p"}), 1)
		expect(t, doubtful(lines, doubt{0, 0, "\xff\x00"}), 2)
		composite := lines[1][len(lines[1])-1:]
		others := strings.ReplaceAll(characters, composite, "")
		expect(t, doubtful(lines, doubt{1, len(lines[1]) - 1, others}), 36)
	}
	expect(t, filled("<", 44, 44), 1)
	expect(t, filled("0", 36, 36), 1)
	expect(t, filled("A", 30, 30, 30), 1)
	expect(t, filled("\xff\xff", 30, 30, 30), 1)
}

func TestReadingsOfOne(t *testing.T) {
	for _, lines := range allLines() {
		last := len(lines[1]) - 1
		expect(t, sure(lines), 1, lines)
		expect(t, doubtful(lines, doubt{1, last, characters}), 37, lines)
		expect(t, doubtful(lines, doubt{1, last, everyByte()}), 256, lines)
		expect(t, doubtful(lines, doubt{0, 2, lines[0][2:3] + lines[0][2:3]}), 1, lines)
		expect(t, doubtful(lines, doubt{0, 2, "a" + lines[0][2:3] + "\x00"}), 3, lines)
		expect(t, doubtful(lines, doubt{1, 0, lines[1][:1] + "\xff"}, doubt{1, last, "z" + lines[1][last:]}), 4, lines)
	}
}

// The characters of names have no check digit, and characters of a number whose values differ by 10 have the same one.
func TestReadingsOfSeveral(t *testing.T) {
	named := func(names string) []string {
		return sealed(t, book(), func(z *api.Zone) { z.Surname = names })
	}
	expect(t, doubtful(book(), doubt{0, 7, "IL"}), 2, named("ERIKSSON"), named("ERLKSSON"))
	expect(t, doubtful(book(), doubt{0, 7, "LIL"}), 2, named("ERIKSSON"), named("ERLKSSON"))
	expect(t, doubtful(book(), doubt{0, 7, "1L0I"}), 4, named("ERIKSSON"), named("ERLKSSON"))
	expect(t, doubtful(book(), doubt{0, 11, "QOD"}, doubt{0, 7, "LI"}), 6,
		named("ERIKSSDN"), named("ERIKSSON"), named("ERIKSSQN"), named("ERLKSSDN"), named("ERLKSSON"), named("ERLKSSQN"))
	numbered := func(number string) []string {
		return sealed(t, book(), func(z *api.Zone) { z.Number = number })
	}
	expect(t, doubtful(book(), doubt{1, 0, "LVB1"}), 4, numbered("1898902C"), numbered("B898902C"), numbered("L898902C"), numbered("V898902C"))
	// The number and its check digit go together: of four choices two are right, with another composite check digit each.
	all := []string{numbered("L898902C")[1], numbered("L898903C")[1]}
	if all[0][9:10] == all[1][9:10] || all[0][43:] == all[1][43:] {
		t.Fatal(all)
	}
	l := doubtful(book(), doubt{1, 6, "32"}, doubt{1, 9, all[1][9:10] + all[0][9:10]}, doubt{1, 43, all[0][43:] + all[1][43:]})
	expect(t, l, 8, numbered("L898902C"), numbered("L898903C"))
}

// The lines ascend line by line and bytewise: the first line decides, then the second one, and fillers stand between digits and letters.
func TestReadingsAscend(t *testing.T) {
	l := doubtful(book(), doubt{0, 1, "ZA<"}, doubt{1, 10, "VBUL"}, doubt{1, 20, "F<M"})
	all, e := Readings(l)
	if e != api.OK || len(all) != 36 {
		t.Fatal(all, e)
	}
	i := 0
	for _, kind := range []string{"P<", "PA", "PZ"} {
		for _, nation := range []string{"BTO", "LTO", "UTO", "VTO"} {
			for _, sex := range []string{"<", "F", "M"} {
				lines := book()
				lines[0] = kind + lines[0][2:]
				lines[1] = lines[1][:10] + nation + lines[1][13:20] + sex + lines[1][21:]
				if !slices.Equal(all[i], lines) {
					t.Errorf("the reading %d is %q, want %q", i, all[i], lines)
				}
				i++
			}
		}
	}
	// All three lines of a card, where the check digits tell nothing of these places.
	l = doubtful(card(), doubt{0, 0, "CA"}, doubt{0, 2, "BX"}, doubt{1, 7, "MF"}, doubt{1, 15, "NA"}, doubt{2, 0, "WV"}, doubt{2, 17, "Z<"})
	all, e = Readings(l)
	if e != api.OK || len(all) != 64 || !slices.IsSortedFunc(all, slices.Compare[[]string]) {
		t.Errorf("Readings(%s) = %q, %d", shown(l), all, e)
	}
	for i := 1; i < len(all); i++ {
		if slices.Compare(all[i-1], all[i]) >= 0 {
			t.Errorf("%q stands ahead of %q", all[i-1], all[i])
		}
	}
}

// The order and the number of times in which a string has its characters are of no meaning.
func TestReadingsDoNotDependOnTheOrderInStrings(t *testing.T) {
	r := rand.New(rand.NewSource(128))
	several := 0
	for range 500 {
		l := randomReading(r, randomLines(t, r))
		want, e := Readings(l)
		if e != api.OK {
			continue
		}
		if len(want) > 1 {
			several++
		}
		n, _ := Count(l)
		for _, row := range l {
			for j := range row {
				s := []byte(row[j] + row[j][:r.Intn(len(row[j]))+1])
				r.Shuffle(len(s), func(a, b int) { s[a], s[b] = s[b], s[a] })
				row[j] = string(s)
			}
		}
		expect(t, l, n, want...)
	}
	if several < 50 {
		t.Error("readings with several lines:", several)
	}
}

func TestReadingsAsDefined(t *testing.T) {
	r := rand.New(rand.NewSource(129))
	results := map[api.Errno]int{}
	lengths := [3]int{}
	for range 3000 {
		l := randomReading(r, randomLines(t, r))
		if r.Intn(3) == 0 {
			// What stands at a place need not be among the characters of its string.
			i := r.Intn(len(l))
			l[i][r.Intn(len(l[i]))] = text(r, characters, 0, 2)
		}
		want, e := definedReadings(l)
		results[e]++
		if e != api.OK {
			refuse(t, l, e)
			continue
		}
		lengths[min(len(want), 2)]++
		n, _ := definedCount(l)
		expect(t, l, n, want...)
	}
	for _, e := range []api.Errno{api.OK, api.ErrForm, api.ErrFull} {
		if results[e] < 50 {
			t.Error("results:", results)
		}
	}
	for _, n := range lengths {
		if n < 100 {
			t.Error("none, one and several readings:", lengths)
		}
	}
}

// As many choices as there may be, of which all, or one, are readings.
func TestReadingsOfMaxChoices(t *testing.T) {
	l := sure(book())
	for j := 5; j < 11; j++ {
		l[0][j] = "DCBA"
	}
	all, e := Readings(l)
	want, _ := definedReadings(l)
	if e != api.OK || len(all) != api.MaxChoices || !equal(all, want) {
		t.Errorf("there are %d readings, %d", len(all), e)
	}
	if lines, e := Only(l); lines != nil || e != api.ErrAmbiguous {
		t.Errorf("Only returns %q, %d", lines, e)
	}
	l[0][0] = "OP"
	refuse(t, l, api.ErrFull)

	l = sure(book())
	for _, j := range []int{9, 19, 27} {
		l[1][j] = "0123456789ABCDEF"
	}
	expect(t, l, api.MaxChoices, book())
	l[1][43] = "47"
	refuse(t, l, api.ErrFull)
}

// A long number is read as one of a field that is full, if a digit is doubtful with a filler.
func TestReadingsOfLongNumbers(t *testing.T) {
	for _, lines := range [][]string{smallLong(), cardLong()} {
		number := 0
		if len(lines) == 2 {
			number = 1
		}
		at := strings.Index(lines[number], "D23145890<") + 9
		expect(t, doubtful(lines, doubt{number, at, "0123456789<"}), 11, lines)
		rest := strings.Index(lines[number], "7349<")
		expect(t, doubtful(lines, doubt{number, rest + 3, "0123456789"}), 10, lines)
		expect(t, doubtful(lines, doubt{number, rest + 4, "0123456789<"}), 11, lines)
	}
}
