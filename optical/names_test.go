package optical

import (
	"math"
	"regexp"
	"strings"
	"testing"
	"unsafe"

	"traveldoc/api"
)

var (
	nameForm  = regexp.MustCompile(`\A([A-Z]+( [A-Z]+)*)?\z`)
	fieldForm = regexp.MustCompile(`\A([A-Z]+(?:<[A-Z]+)*)(?:<<([A-Z]+(?:<[A-Z]+)*))?<*\z`)
)

// isNameByForm reports whether s has the form of a name in the definitions.
func isNameByForm(s string) bool { return nameForm.MatchString(s) }

// noNames returns strings that are no names.
func noNames() []string {
	return []string{" ", "  ", " A", "A ", "  A", "A  ", "A  B", "A B ", " A B", "A   B", "A B  C", "A  B C", "a", "A b", "Ab", "aB",
		"A<B", "<", "A<", "A1", "1", "A-B", "O'A", "A.", "É", "AÉ", "É A", "\xff", "A\xff", "A\x00", "\x00", "A\tB", "A\nB", "A\n", "\nA", "A\u00a0B", "Ａ", "@", "[", "A_B"}
}

// names returns names with words.
func names() []string {
	return []string{"A", "Z", "AB", "A B", "A B C", "AB CD EF", "VAN DER MUELLEN", "MUELLER", "ANNA MARIA", "X Y",
		strings.Repeat("A", 30), strings.Repeat("B", 39), strings.Repeat("C", 64), strings.Repeat("D", 65), strings.TrimSpace(strings.Repeat("E ", 40)), strings.Repeat("F", 1000)}
}

// widths returns numbers that are widths.
func widths() []int {
	var all []int
	for n := range 64 {
		all = append(all, n+1)
	}
	return all
}

// noWidths returns numbers that are no widths.
func noWidths() []int {
	return []int{0, -1, -2, -39, -64, 65, 66, 100, 1000, 1<<32 + 39, -1<<32 + 39, math.MinInt32, math.MaxInt32, math.MinInt, math.MinInt + 39, math.MaxInt}
}

// definedNames is the field as P10.3 has it: all characters, with fillers behind them, of which the first ones are taken.
func definedNames(surname, given string, width int) string {
	field := strings.Join(strings.Fields(surname), "<")
	if words := strings.Fields(given); len(words) > 0 {
		field += "<<" + strings.Join(words, "<")
	}
	for len(field) < width {
		field += "<"
	}
	return field[:width]
}

// P10.3

func TestName(t *testing.T) {
	for _, s := range append(names(), "", strings.Repeat("AB C ", 10000)+"D") {
		if !Name(s) {
			t.Errorf("Name(%.40q) is false", s)
		}
	}
	for _, s := range append(noNames(), strings.Repeat("AB C ", 10000)) {
		if Name(s) {
			t.Errorf("Name(%.40q) is true", s)
		}
	}
}

func TestNameByForm(t *testing.T) {
	all := texts([]string{"A", "Z", " ", "<", "a"}, 6)
	for c := range 256 {
		b := string([]byte{byte(c)})
		all = append(all, b, "A"+b, b+"A", "A"+b+"B", "A "+b, b+" A", "A"+b+" B", "A "+b+"B")
	}
	for _, s := range all {
		if Name(s) != isNameByForm(s) {
			t.Fatalf("Name(%q) is not %v", s, isNameByForm(s))
		}
	}
}

func TestNamesLiterals(t *testing.T) {
	for _, x := range []struct {
		surname, given string
		width          int
		want           string
	}{
		{"A", "", 1, "A"}, {"A", "", 2, "A<"}, {"A", "", 3, "A<<"}, {"A", "B", 1, "A"}, {"A", "B", 2, "A<"}, {"A", "B", 3, "A<<"}, {"A", "B", 4, "A<<B"}, {"A", "B", 5, "A<<B<"},
		{"AB", "", 1, "A"}, {"A B", "", 1, "A"}, {"A B", "", 2, "A<"}, {"A B", "", 3, "A<B"}, {"A B", "C D", 7, "A<B<<C<"}, {"A B", "C D", 8, "A<B<<C<D"}, {"A B", "C D", 9, "A<B<<C<D<"},
		// These just fit, are one too long, and are cut within a word, within a gap of one filler, and within that of two.
		{"SMITH", "ANN LEE", 14, "SMITH<<ANN<LEE"}, {"SMITH", "ANN LEE", 13, "SMITH<<ANN<LE"}, {"SMITH", "ANN LEE", 12, "SMITH<<ANN<L"}, {"SMITH", "ANN LEE", 11, "SMITH<<ANN<"},
		{"SMITH", "ANN LEE", 10, "SMITH<<ANN"}, {"SMITH", "ANN LEE", 8, "SMITH<<A"}, {"SMITH", "ANN LEE", 7, "SMITH<<"}, {"SMITH", "ANN LEE", 6, "SMITH<"}, {"SMITH", "ANN LEE", 5, "SMITH"}, {"SMITH", "ANN LEE", 3, "SMI"},
		{"VAN DER MUELLEN", "ANNA MARIA", 27, "VAN<DER<MUELLEN<<ANNA<MARIA"},
		{strings.Repeat("A", 64), "", 64, strings.Repeat("A", 64)}, {strings.Repeat("A", 65), "B", 64, strings.Repeat("A", 64)},
		{strings.Repeat("A", 63), "B", 64, strings.Repeat("A", 63) + "<"}, {strings.Repeat("A", 62), "B", 64, strings.Repeat("A", 62) + "<<"},
		{strings.Repeat("A", 61), "B", 64, strings.Repeat("A", 61) + "<<B"}, {strings.Repeat("A", 61), "BC", 64, strings.Repeat("A", 61) + "<<B"},
		{"A", "", 64, "A" + strings.Repeat("<", 63)},
	} {
		if got, e := Names(x.surname, x.given, x.width); got != x.want || e != api.OK {
			t.Errorf("Names(%q, %q, %d) = %q, %d, want %q", x.surname, x.given, x.width, got, e, x.want)
		}
	}
}

func TestNamesAsDefined(t *testing.T) {
	for _, surname := range names() {
		for _, given := range append(names(), "") {
			for _, width := range widths() {
				want := definedNames(surname, given, width)
				if got, e := Names(surname, given, width); got != want || e != api.OK {
					t.Fatalf("Names(%q, %q, %d) = %q, %d, want %q", surname, given, width, got, e, want)
				}
			}
		}
	}
}

// The widths that are not permitted are among those here, because this error comes first.
func TestNamesRefusesWhatIsNoName(t *testing.T) {
	for _, width := range append(noWidths(), 1, 39, 64) {
		for _, bad := range noNames() {
			for _, x := range [][2]string{{bad, "A"}, {bad, ""}, {"A", bad}, {bad, bad}, {"", bad}, {"VAN DER", bad}} {
				if got, e := Names(x[0], x[1], width); got != "" || e != api.ErrInvalid {
					t.Errorf("Names(%q, %q, %d) = %q, %d, want ErrInvalid", x[0], x[1], width, got, e)
				}
			}
		}
		for _, given := range append(names(), "") {
			if got, e := Names("", given, width); got != "" || e != api.ErrInvalid {
				t.Errorf("Names of no surname, %q and %d = %q, %d, want ErrInvalid", given, width, got, e)
			}
		}
	}
}

func TestNamesRefusesOtherWidths(t *testing.T) {
	for _, width := range noWidths() {
		for _, given := range append(names(), "") {
			if got, e := Names("A B", given, width); got != "" || e != api.ErrSize {
				t.Errorf("Names(.., %q, %d) = %q, %d, want ErrSize", given, width, got, e)
			}
		}
	}
}

// P10.4

func TestSplitLiterals(t *testing.T) {
	for _, x := range []struct {
		field, surname, given string
		full                  bool
	}{
		{"A", "A", "", true}, {"A<", "A", "", false}, {"A<<", "A", "", false}, {"A<<<", "A", "", false}, {"A<<<<<<<<", "A", "", false},
		{"A<B", "A B", "", true}, {"A<B<", "A B", "", false}, {"A<<B", "A", "B", true}, {"A<<B<", "A", "B", false}, {"A<<B<<", "A", "B", false}, {"A<<B<<<", "A", "B", false},
		{"A<B<<C<D", "A B", "C D", true}, {"A<B<<C<D<", "A B", "C D", false}, {"A<B<C", "A B C", "", true}, {"A<<B<C<D", "A", "B C D", true},
		{"SMITH<<ANN<LE", "SMITH", "ANN LE", true}, {"SMITH<<ANN<", "SMITH", "ANN", false}, {"SMITH<<", "SMITH", "", false}, {"SMITH<", "SMITH", "", false}, {"SMI", "SMI", "", true},
		{"VAN<DER<MUELLEN<<ANNA<MARIA<<<<<<<<<<<<", "VAN DER MUELLEN", "ANNA MARIA", false},
		{strings.Repeat("A", 64), strings.Repeat("A", 64), "", true}, {strings.Repeat("A", 63) + "<", strings.Repeat("A", 63), "", false},
		{strings.Repeat("A<", 32), strings.TrimSpace(strings.Repeat("A ", 32)), "", false}, {"A" + strings.Repeat("<", 63), "A", "", false}, {"A<<" + strings.Repeat("B", 61), "A", strings.Repeat("B", 61), true},
	} {
		if surname, given, full, e := Split(x.field); surname != x.surname || given != x.given || full != x.full || e != api.OK {
			t.Errorf("Split(%q) = %q, %q, %v, %d, want %q, %q, %v", x.field, surname, given, full, e, x.surname, x.given, x.full)
		}
	}
}

func TestSplitRefusesOtherForms(t *testing.T) {
	for _, field := range []string{"<", "<<", "<<<", strings.Repeat("<", 39), strings.Repeat("<", 64), "<A", "<<A", "<<<A", "<A<", "<A<<B", "<<A<<B", "<<A<B",
		"A<<<B", "A<<<<B", "A<<<<<B", "A<<<B<", "A<B<<<C", "A<<<B<C", "A<<B<<C", "A<<B<<C<", "A<<B<<<C", "A<<<B<<C", "A<<B<C<<D", "A<B<<C<<D", "A<<B<<C<<D",
		"A" + strings.Repeat("<", 62) + "B", "<" + strings.Repeat("A", 63)} {
		if surname, given, full, e := Split(field); surname != "" || given != "" || full || e != api.ErrForm {
			t.Errorf("Split(%q) = %q, %q, %v, %d, want ErrForm", field, surname, given, full, e)
		}
	}
}

func TestSplitByForm(t *testing.T) {
	for _, field := range texts([]string{"A", "Z", "<"}, 9)[1:] {
		parts := fieldForm.FindStringSubmatch(field)
		surname, given, full, e := Split(field)
		if parts == nil {
			if surname != "" || given != "" || full || e != api.ErrForm {
				t.Fatalf("Split(%q) = %q, %q, %v, %d, want ErrForm", field, surname, given, full, e)
			}
			continue
		}
		wantSurname, wantGiven := strings.ReplaceAll(parts[1], "<", " "), strings.ReplaceAll(parts[2], "<", " ")
		if surname != wantSurname || given != wantGiven || full != (field[len(field)-1] != '<') || e != api.OK {
			t.Fatalf("Split(%q) = %q, %q, %v, %d, want %q, %q", field, surname, given, full, e, wantSurname, wantGiven)
		}
	}
}

// Among the fields are some that do not have the form, because this error comes behind.
func TestSplitRefusesOtherBytes(t *testing.T) {
	for _, field := range []string{"A", "<", "AB<CD<<EF<", "<A", "A<<<B", "A<<B<<C", strings.Repeat("A", 64), strings.Repeat("<", 64)} {
		for i := range len(field) {
			for c := range 256 {
				if c == '<' || 'A' <= c && c <= 'Z' {
					continue
				}
				wrong := with(field, i, byte(c))
				if surname, given, full, e := Split(wrong); surname != "" || given != "" || full || e != api.ErrCharacter {
					t.Fatalf("Split(%q) = %q, %q, %v, %d, want ErrCharacter", wrong, surname, given, full, e)
				}
			}
		}
	}
}

func TestSplitRefusesOtherSizes(t *testing.T) {
	for n := range 200 {
		// The size decides ahead of the characters and the form.
		for _, piece := range []string{"A", "<", "a", "\xff", "0"} {
			_, _, _, e := Split(strings.Repeat(piece, n))
			if wrong := n < 1 || n > 64; wrong != (e == api.ErrSize) {
				t.Errorf("Split of %d times %q returns %d", n, piece, e)
			}
		}
	}
	for _, field := range []string{"", strings.Repeat("A", 65), "A" + strings.Repeat("<", 64), strings.Repeat("É", 33), strings.Repeat("A", 1<<20)} {
		if surname, given, full, e := Split(field); surname != "" || given != "" || full || e != api.ErrSize {
			t.Errorf("Split of %d bytes = %q, %q, %v, %d, want ErrSize", len(field), surname, given, full, e)
		}
	}
}

// Consequences

func TestSplitOfNames(t *testing.T) {
	some := names()
	for _, s := range texts([]string{"A", "B", " "}, 4) {
		if isNameByForm(s) && s != "" {
			some = append(some, s)
		}
	}
	for _, surname := range some {
		for _, given := range append(some, "") {
			size := len(surname)
			if given != "" {
				size += 2 + len(given)
			}
			for width := size; width <= 64; width++ {
				field, e := Names(surname, given, width)
				if e != api.OK {
					t.Fatalf("Names(%q, %q, %d) returns %d", surname, given, width, e)
				}
				gotSurname, gotGiven, full, e := Split(field)
				if gotSurname != surname || gotGiven != given || full != (width == size) || e != api.OK {
					t.Fatalf("Split(%q) = %q, %q, %v, %d, want %q, %q", field, gotSurname, gotGiven, full, e, surname, given)
				}
			}
		}
	}
}

// A field that was cut still has the form, and stands for what is left.
func TestSplitOfNamesThatWereCut(t *testing.T) {
	for _, surname := range names() {
		for _, given := range append(names(), "") {
			for _, width := range widths() {
				field, _ := Names(surname, given, width)
				gotSurname, gotGiven, full, e := Split(field)
				if !strings.HasPrefix(surname, gotSurname) || !strings.HasPrefix(given, gotGiven) || full != (field[width-1] != '<') || e != api.OK {
					t.Fatalf("Split(%q) = %q, %q, %v, %d, of %q and %q", field, gotSurname, gotGiven, full, e, surname, given)
				}
			}
		}
	}
}

// R2

// within reports whether a string lies in the memory of another one.
func within(s, memory string) bool {
	first, from := uintptr(unsafe.Pointer(unsafe.StringData(s))), uintptr(unsafe.Pointer(unsafe.StringData(memory)))
	return from <= first && first < from+uintptr(len(memory))
}

func TestResultsShareNoMemoryWithArguments(t *testing.T) {
	surname, given := strings.Repeat("AB", 12), strings.Repeat("CD", 6)
	for _, width := range []int{24, 38, 39, 64} {
		if field, _ := Names(surname, given, width); within(field, surname) || within(field, given) {
			t.Errorf("the field %q is a part of a name", field)
		}
	}
	for _, field := range []string{surname, surname + "<<" + given, surname + "<<<"} {
		if first, second, _, _ := Split(field); within(first, field) || second != "" && within(second, field) {
			t.Errorf("a name is a part of the field %q", field)
		}
	}
	if text, _ := Transliterate(surname); within(text, surname) {
		t.Errorf("the name %q is a part of the text", text)
	}
}
