package dates

import (
	"math"
	"strconv"
	"strings"
	"testing"

	"traveldoc/api"
)

// noFirsts returns numbers with which no hundred years of the calendar begin.
func noFirsts() []int {
	return []int{1899, 2001, 1898, 2002, 2099, 2100, 1800, 0, 1, 50, 99, -1, -1900, -2000, math.MinInt32, math.MaxInt32,
		1<<32 + 1950, -1<<32 + 1950, math.MinInt, math.MinInt + 1, math.MaxInt - 1, math.MaxInt}
}

// noTexts returns texts that do not consist of six digits.
func noTexts() []string {
	return []string{"", "0", "00022", "0002290", "00000", "0000000", "20000229", strings.Repeat("0", 1000),
		"00022 ", " 00229", "00-229", "+00229", "-00229", "00022a", "a00229", "0x0229", "00.229", "00 229", "00022\n", "00022\x00",
		"99999x", "00<<01", "0002é", "é0229", "0002²", "٠٠٠٢٢٩", "٠٠٠", "\xff\xff\xff\xff\xff\xff", "abcdef", "      "}
}

// P3.2

func TestFormat(t *testing.T) {
	for _, x := range []struct {
		day  int
		want string
	}{
		{0, "000101"},
		{8, "000109"},
		{9, "000110"},
		{59, "000301"},
		{364, "001231"},
		{365, "010101"},
		{36523, "991231"},
		{36524, "000101"},
		{36583, "000229"},
		{of(t, 1974, 8, 12), "740812"},
		{of(t, 2012, 4, 15), "120415"},
		{api.MaxDay, "991231"},
	} {
		if s, e := Format(x.day); s != x.want || e != api.OK {
			t.Errorf("Format(%d) = %q, %d, want %q", x.day, s, e, x.want)
		}
	}
}

func TestFormatOfEveryDay(t *testing.T) {
	for day := range api.MaxDay + 1 {
		want := at(day).Format("060102")
		if s, e := Format(day); s != want || e != api.OK {
			t.Fatalf("Format(%d) = %q, %d, want %q", day, s, e, want)
		}
	}
}

func TestFormatRefusesWhatIsNoDay(t *testing.T) {
	for _, day := range noDays() {
		if s, e := Format(day); s != "" || e != api.ErrDate {
			t.Errorf("Format(%d) = %q, %d, want ErrDate", day, s, e)
		}
	}
}

func TestParse(t *testing.T) {
	for _, x := range []struct {
		s                     string
		first, year, month, d int
	}{
		{"000101", 1900, 1900, 1, 1},
		{"991231", 1900, 1999, 12, 31},
		{"000101", 2000, 2000, 1, 1},
		{"991231", 2000, 2099, 12, 31},
		{"690806", 1900, 1969, 8, 6},
		{"690806", 1950, 1969, 8, 6},
		{"690806", 1969, 1969, 8, 6},
		{"690806", 1970, 2069, 8, 6},
		{"690806", 2000, 2069, 8, 6},
		{"500101", 1950, 1950, 1, 1},
		{"491231", 1950, 2049, 12, 31},
		{"000229", 1950, 2000, 2, 29},
		{"000229", 1901, 2000, 2, 29},
		{"000229", 2000, 2000, 2, 29},
		{"040229", 1900, 1904, 2, 29},
		{"040229", 1905, 2004, 2, 29},
		{"010101", 1901, 1901, 1, 1},
		{"001231", 1901, 2000, 12, 31},
		{"990101", 1999, 1999, 1, 1},
		{"981231", 1999, 2098, 12, 31},
	} {
		want := of(t, x.year, x.month, x.d)
		if day, e := Parse(x.s, x.first); day != want || e != api.OK {
			t.Errorf("Parse(%q, %d) = %d, %d, want %d", x.s, x.first, day, e, want)
		}
	}
}

func TestParseAtBothEndsOfTheHundredYears(t *testing.T) {
	for first := 1900; first <= 2000; first++ {
		for _, x := range []struct{ year, month, d int }{{first, 1, 1}, {first, 12, 31}, {first + 99, 1, 1}, {first + 99, 12, 31}} {
			want := of(t, x.year, x.month, x.d)
			s := date(x.year, x.month, x.d).Format("060102")
			if day, e := Parse(s, first); day != want || e != api.OK {
				t.Errorf("Parse(%q, %d) = %d, %d, want %d", s, first, day, e, want)
			}
		}
	}
}

// TestParseEverySixDigits compares with a calendar for texts of all months and days of the month, those that do not exist among them.
func TestParseEverySixDigits(t *testing.T) {
	for _, first := range []int{1900, 1901, 1950, 1999, 2000} {
		for n := range 1000000 {
			s := strconv.Itoa(n + 1000000)[1:]
			year := first + (n/10000-first%100+100)%100
			month, d := n/100%100, n%100
			want, wantE := 0, api.ErrDate
			if month <= 12 && d <= 31 && exists(year, month, d) {
				want, wantE = number(date(year, month, d)), api.OK
			}
			if day, e := Parse(s, first); day != want || e != wantE {
				t.Fatalf("Parse(%q, %d) = %d, %d, want %d, %d", s, first, day, e, want, wantE)
			}
		}
	}
}

func TestParseRefusesDatesThatAreNot(t *testing.T) {
	for _, s := range []string{"000229", "010229", "990229", "000230", "230231", "230431", "230631", "230931", "231131",
		"230001", "231301", "230100", "230132", "230000", "000000", "999999", "230199", "239901", "232301"} {
		if day, e := Parse(s, 1900); day != 0 || e != api.ErrDate {
			t.Errorf("Parse(%q, 1900) = %d, %d, want ErrDate", s, day, e)
		}
	}
	for _, s := range []string{"010229", "000230", "000001", "001301", "000100", "000132", "000431", "990229"} {
		if day, e := Parse(s, 2000); day != 0 || e != api.ErrDate {
			t.Errorf("Parse(%q, 2000) = %d, %d, want ErrDate", s, day, e)
		}
	}
}

func TestParseRefusesOtherTexts(t *testing.T) {
	for _, s := range noTexts() {
		for _, first := range []int{1900, 1950, 2000} {
			if day, e := Parse(s, first); day != 0 || e != api.ErrForm {
				t.Errorf("Parse(%q, %d) = %d, %d, want ErrForm", s, first, day, e)
			}
		}
	}
}

func TestParseRefusesOtherBytes(t *testing.T) {
	for c := range 256 {
		for place := range 6 {
			// Of digits in one place, some make a date and some do not.
			s := []byte("111111")
			s[place] = byte(c)
			_, e := Parse(string(s), 1950)
			if digit := c >= '0' && c <= '9'; digit == (e == api.ErrForm) {
				t.Errorf("Parse(%q, 1950) returns %d", s, e)
			}
		}
	}
}

func TestParseRefusesTextsOfOtherLengths(t *testing.T) {
	for n := range 40 {
		s := strings.Repeat("1", n)
		want := api.ErrForm
		if n == 6 {
			want = api.OK
		}
		if _, e := Parse(s, 1950); e != want {
			t.Errorf("Parse(%q, 1950) returns %d, want %d", s, e, want)
		}
	}
}

func TestParseRefusesOtherFirstYears(t *testing.T) {
	// The first year decides before the text does: a text without the form or the date makes no difference.
	texts := append(noTexts(), "000101", "500615", "991231", "000229", "990229", "001301", "000000")
	for _, first := range noFirsts() {
		for _, s := range texts {
			if day, e := Parse(s, first); day != 0 || e != api.ErrRange {
				t.Errorf("Parse(%q, %d) = %d, %d, want ErrRange", s, first, day, e)
			}
		}
	}
	for first := 1800; first <= 2200; first++ {
		want := api.OK
		if first < 1900 || first > 2000 {
			want = api.ErrRange
		}
		if _, e := Parse("500615", first); e != want {
			t.Errorf("Parse(%q, %d) returns %d, want %d", "500615", first, e, want)
		}
	}
}

func TestParseChecksTheFormAheadOfTheDate(t *testing.T) {
	for _, s := range []string{"99999", "9999999", "00000", "0000000", "99999x", "x99999", "001301x", "00130x", "000230 "} {
		if day, e := Parse(s, 1950); day != 0 || e != api.ErrForm {
			t.Errorf("Parse(%q, 1950) = %d, %d, want ErrForm", s, day, e)
		}
	}
}

// Consequences

func TestParseReadsWhatFormatWrites(t *testing.T) {
	for _, first := range []int{1900, 1901, 1904, 1926, 1950, 1999, 2000} {
		for day := of(t, first, 1, 1); day <= of(t, first+99, 12, 31); day++ {
			s, e := Format(day)
			if e != api.OK {
				t.Fatalf("Format(%d) returns %d", day, e)
			}
			if back, e := Parse(s, first); back != day || e != api.OK {
				t.Fatalf("Parse(%q, %d) = %d, %d, want %d", s, first, back, e, day)
			}
		}
	}
}
