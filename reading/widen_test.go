package reading

import (
	"math/rand"
	"slices"
	"strings"
	"testing"

	"traveldoc/api"
)

// P12.2

func TestWidenLiterals(t *testing.T) {
	for _, x := range []struct {
		lines []string
		want  string
	}{
		{book(), "P<UT[DOQ]ER[IL]KSS[DOQ]N<<ANNA<MAR[IL]A<<<<<<<<<<<<<<<<<<< [1IL][8B]9[8B]9[0DOQ][2Z]C<3UT[DOQ]6908061F9406236[2Z]E[1IL][8B]4[2Z][2Z][6G][8B]<<<<<14"},
		{small(), "[IL]<UT[DOQ]ER[IL]KSS[DOQ]N<<ANNA<MAR[IL]A<<<<<<<<<<< [0DOQ][2Z]3[1IL]4[5S][8B]9[0DOQ]7UT[DOQ]7408122F1204159<<<<<<<6"},
		{smallLong(), "[IL]<UT[DOQ]STEVENS[DOQ]N<<PETER<J[DOQ]HN<<<<<<<<<< [0DOQ][2Z]3[1IL]4[5S][8B]9[0DOQ]<UT[DOQ]3407127M95071227349<<<8"},
		{card(), "CAB<<K9<<<<<<<7[1IL][2Z]34[5S][6G]7[8B]9A[8B]C[0DOQ]EF <<06312F3107313N[IL][DOQ]" + strings.Repeat("[2Z]", 11) + "9 VAN<[DOQ]EN<BERG<<X<Y<<<<<<<<<<<<<"},
		{cardLong(), "[IL]<UT[DOQ][0DOQ][2Z]3[1IL]4[5S][8B]9[0DOQ]<7349<<<<<<<<<<< 3407127M9507122UT[DOQ]<<<<<<<<<<<2 STEVENS[DOQ]N<<PETER<J[DOQ]HN<<<<<<<<<"},
	} {
		if l, e := Widen(x.lines); shown(l) != x.want || e != api.OK {
			t.Errorf("Widen(%q) = %s, %d, want %s", x.lines, shown(l), e, x.want)
		}
	}
}

// uniform returns lines of a format that consist of one character.
func uniform(format int, c string) []string {
	var lines []string
	for _, line := range fieldsOf[format] {
		lines = append(lines, strings.Repeat(c, len(line)))
	}
	return lines
}

// What becomes of a character at the places of digits, of letters, and of both.
func TestWidenOfOneCharacterEverywhere(t *testing.T) {
	for _, x := range []struct{ c, digit, letter, any string }{
		{"0", "0", "DOQ", "0DOQ"}, {"D", "0", "DOQ", "0DOQ"}, {"O", "0", "DOQ", "0DOQ"}, {"Q", "0", "DOQ", "0DOQ"},
		{"1", "1", "IL", "1IL"}, {"I", "1", "IL", "1IL"}, {"L", "1", "IL", "1IL"},
		{"2", "2", "Z", "2Z"}, {"Z", "2", "Z", "2Z"},
		{"5", "5", "S", "5S"}, {"S", "5", "S", "5S"},
		{"6", "6", "G", "6G"}, {"G", "6", "G", "6G"},
		{"8", "8", "B", "8B"}, {"B", "8", "B", "8B"},
		// These are similar to themselves only, and stay also where they may not stand.
		{"3", "3", "3", "3"}, {"7", "7", "7", "7"}, {"9", "9", "9", "9"}, {"A", "A", "A", "A"}, {"Y", "Y", "Y", "Y"}, {"<", "<", "<", "<"},
	} {
		digit, letter, all := x.digit, x.letter, x.any
		fill := func(s string, n int) []string { return slices.Repeat([]string{s}, n) }
		bearer := slices.Concat(fill(all, 9), fill(digit, 1), fill(letter, 3), fill(digit, 7), fill(letter, 1), fill(digit, 7))
		for format, want := range map[int][][]string{
			api.FormatBook:  {fill(letter, 44), slices.Concat(bearer, fill(all, 14), fill(digit, 2))},
			api.FormatSmall: {fill(letter, 36), slices.Concat(bearer, fill(all, 7), fill(digit, 1))},
			api.FormatCard: {
				slices.Concat(fill(letter, 5), fill(all, 9), fill(digit, 1), fill(all, 15)),
				slices.Concat(fill(digit, 7), fill(letter, 1), fill(digit, 7), fill(letter, 3), fill(all, 11), fill(digit, 1)),
				fill(letter, 30),
			},
		} {
			if l, e := Widen(uniform(format, x.c)); !equal(l, want) || e != api.OK {
				t.Errorf("format %d: %s becomes %s, %d, want %s", format, x.c, shown(l), e, shown(want))
			}
		}
	}
}

// Each character at each place, alone among others.
func TestWidenOfEachCharacterAtEachPlace(t *testing.T) {
	for _, base := range allLines() {
		format := formatOf(base)
		unchanged, _ := definedWiden(base)
		for i, line := range base {
			for j := range line {
				for _, c := range []byte(characters) {
					lines := slices.Clone(base)
					lines[i] = line[:j] + string(rune(c)) + line[j+1:]
					want := copied(unchanged)
					want[i][j] = definedFit(c, fieldsOf[format][i][j])
					if l, e := Widen(lines); !equal(l, want) || e != api.OK {
						t.Fatalf("Widen(%q) = %s, %d, want %s", lines, shown(l), e, shown(want))
					}
				}
			}
		}
	}
}

func TestWidenAsDefined(t *testing.T) {
	r := rand.New(rand.NewSource(126))
	for range 5000 {
		lines := randomLines(t, r)
		for i := range lines {
			if r.Intn(2) == 0 {
				lines[i] = text(r, []string{characters, "0DOQ1IL2Z5S6G8B", "7A<"}[r.Intn(3)], len(lines[i]), len(lines[i]))
			}
		}
		want, _ := definedWiden(lines)
		if l, e := Widen(lines); !equal(l, want) || e != api.OK {
			t.Fatalf("Widen(%q) = %s, %d, want %s", lines, shown(l), e, shown(want))
		}
	}
}

// What Widen returns is complete: Count has an answer to it that is not ErrForm.
func TestWidenIsComplete(t *testing.T) {
	for _, format := range formats3() {
		for _, c := range characters {
			l, e := Widen(uniform(format, string(c)))
			if e != api.OK {
				t.Fatalf("format %d: %c returns %d", format, c, e)
			}
			n, e := Count(l)
			wantN, want := definedCount(l)
			if n != wantN || e != want || e == api.ErrForm {
				t.Errorf("Count(%s) = %d, %d, want %d, %d", shown(l), n, e, wantN, want)
			}
		}
	}
}

func refuseWiden(t *testing.T, lines []string, want api.Errno) {
	t.Helper()
	if l, e := Widen(lines); l != nil || e != want {
		t.Errorf("Widen(%q) = %s, %d, want %d", lines, shown(l), e, want)
	}
}

func TestWidenRefusesOtherLengths(t *testing.T) {
	refuseWiden(t, nil, api.ErrSize)
	refuseWiden(t, []string{}, api.ErrSize)
	refuseWiden(t, []string{""}, api.ErrSize)
	refuseWiden(t, []string{"", ""}, api.ErrSize)
	refuseWiden(t, []string{"", "", ""}, api.ErrSize)
	for _, lines := range allLines() {
		refuseWiden(t, lines[:1], api.ErrSize)
		refuseWiden(t, lines[1:2], api.ErrSize)
		refuseWiden(t, lines[:len(lines)-1], api.ErrSize)
		refuseWiden(t, append(slices.Clone(lines), ""), api.ErrSize)
		refuseWiden(t, append(slices.Clone(lines), lines[0]), api.ErrSize)
		refuseWiden(t, slices.Concat(lines, lines), api.ErrSize)
		refuseWiden(t, []string{strings.Join(lines, "")}, api.ErrSize)
		for i := range lines {
			for _, line := range []string{"", lines[i][1:], lines[i] + "<", lines[i] + "\x00", lines[i] + lines[i]} {
				wrong := slices.Clone(lines)
				wrong[i] = line
				refuseWiden(t, wrong, api.ErrSize)
			}
		}
	}
}

func TestWidenOfLinesOfEveryLength(t *testing.T) {
	for first := range 50 {
		for second := range 50 {
			a, b := strings.Repeat("O", first), strings.Repeat("1", second)
			for _, lines := range [][]string{{a}, {a, b}, {a, a, b}, {a, b, a}, {b, a, a}, {a, a, b, b}} {
				l, e := Widen(lines)
				want, wantE := definedWiden(lines)
				if !equal(l, want) || e != wantE {
					t.Fatalf("Widen(%q) = %s, %d, want %s, %d", lines, shown(l), e, shown(want), wantE)
				}
			}
		}
	}
}

func TestWidenRefusesOtherBytes(t *testing.T) {
	for _, lines := range allLines() {
		for i, line := range lines {
			for j := range line {
				for _, c := range []byte{0, ' ', '-', '/', ':', ';', '=', '>', '@', '[', '`', 'a', 'o', 'z', '{', 127, 128, 0xc3, 255} {
					wrong := slices.Clone(lines)
					wrong[i] = line[:j] + string([]byte{c}) + line[j+1:]
					refuseWiden(t, wrong, api.ErrCharacter)
				}
			}
		}
	}
	// A letter of two bytes has the length of two characters.
	refuseWiden(t, []string{strings.Repeat("é", 22), strings.Repeat("é", 22)}, api.ErrCharacter)
	refuseWiden(t, []string{strings.Repeat("é", 44), strings.Repeat("é", 44)}, api.ErrSize)
}

func TestWidenReturnsTheFirstError(t *testing.T) {
	for _, lines := range allLines() {
		for i := range lines {
			for j := range lines {
				wrong := slices.Clone(lines)
				wrong[i] = "o" + wrong[i][1:]
				refuseWiden(t, wrong, api.ErrCharacter)
				wrong[j] += "<"
				refuseWiden(t, wrong, api.ErrSize)
			}
		}
		refuseWiden(t, []string{"o" + lines[0][1:]}, api.ErrSize)
	}
}
