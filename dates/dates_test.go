package dates

import (
	"math"
	"testing"
	"time"

	"traveldoc/api"
)

// Help for the tests of this package. The calendar of the standard library is what the package is compared with.

// date returns a date of the standard library, which takes days and months outside their ranges for those behind or ahead.
func date(year, month, d int) time.Time {
	return time.Date(year, time.Month(month), d, 0, 0, 0, 0, time.UTC)
}

// number returns the number of days since the 1st of January 1900.
func number(x time.Time) int {
	return int((x.Unix() - date(1900, 1, 1).Unix()) / (24 * 60 * 60))
}

// at returns the date of a number of days since the 1st of January 1900.
func at(day int) time.Time {
	return date(1900, 1, 1+day)
}

// exists reports whether the standard library leaves a date as it is.
func exists(year, month, d int) bool {
	x := date(year, month, d)
	return x.Year() == year && int(x.Month()) == month && x.Day() == d
}

// of returns the day of a date that must exist.
func of(t *testing.T, year, month, d int) int {
	t.Helper()
	day, e := Of(year, month, d)
	if e != api.OK {
		t.Fatalf("Of(%d, %d, %d) returns %d", year, month, d, e)
	}
	return day
}

// noDays returns numbers that are no days, of any size.
func noDays() []int {
	return []int{-1, -2, -36524, -api.MaxDay, math.MinInt32, math.MinInt32 - 1, math.MinInt, math.MinInt + 1,
		api.MaxDay + 1, api.MaxDay + 2, 73415, 100000, math.MaxInt32, math.MaxInt32 + 1, 1 << 40, math.MaxInt - 1, math.MaxInt}
}

// P3.1

func TestMaxDayIsTheLastDayOf2099(t *testing.T) {
	if n := number(date(2099, 12, 31)); n != api.MaxDay {
		t.Errorf("the 31st of December 2099 is %d", n)
	}
}

func TestValid(t *testing.T) {
	for _, day := range []int{0, 1, 58, 59, 60, 365, 36524, api.MaxDay - 1, api.MaxDay} {
		if !Valid(day) {
			t.Errorf("Valid(%d) is false", day)
		}
	}
	for _, day := range noDays() {
		if Valid(day) {
			t.Errorf("Valid(%d) is true", day)
		}
	}
	for day := -1000; day <= api.MaxDay+1000; day++ {
		if want := day >= 0 && day <= api.MaxDay; Valid(day) != want {
			t.Fatalf("Valid(%d) is not %v", day, want)
		}
	}
}

func TestOf(t *testing.T) {
	for _, x := range []struct{ year, month, d, want int }{
		{1900, 1, 1, 0},
		{1900, 1, 31, 30},
		{1900, 2, 1, 31},
		{1900, 2, 28, 58},
		{1900, 3, 1, 59},
		{1900, 12, 31, 364},
		{1901, 1, 1, 365},
		{1904, 2, 29, 1519},
		{1999, 12, 31, 36523},
		{2000, 1, 1, 36524},
		{2000, 2, 29, 36583},
		{2000, 3, 1, 36584},
		{2099, 12, 31, api.MaxDay},
	} {
		if day, e := Of(x.year, x.month, x.d); day != x.want || e != api.OK {
			t.Errorf("Of(%d, %d, %d) = %d, %d, want %d", x.year, x.month, x.d, day, e, x.want)
		}
	}
}

func TestOfEveryDate(t *testing.T) {
	for year := 1895; year <= 2105; year++ {
		for month := -1; month <= 14; month++ {
			for d := -1; d <= 33; d++ {
				want, wantE := 0, api.ErrDate
				if year >= 1900 && year <= 2099 && exists(year, month, d) {
					want, wantE = number(date(year, month, d)), api.OK
				}
				if day, e := Of(year, month, d); day != want || e != wantE {
					t.Fatalf("Of(%d, %d, %d) = %d, %d, want %d, %d", year, month, d, day, e, want, wantE)
				}
			}
		}
	}
}

func TestOfKnowsTheLengthsOfMonths(t *testing.T) {
	for month, last := range []int{31, 28, 31, 30, 31, 30, 31, 31, 30, 31, 30, 31} {
		for d := 28; d <= 32; d++ {
			want := api.OK
			if d > last {
				want = api.ErrDate
			}
			if day, e := Of(2023, month+1, d); e != want || e != api.OK && day != 0 {
				t.Errorf("Of(2023, %d, %d) = %d, %d, want %d", month+1, d, day, e, want)
			}
		}
	}
}

func TestOfKnowsLeapYears(t *testing.T) {
	for _, x := range []struct {
		year int
		leap bool
	}{
		{1900, false}, {1901, false}, {1903, false}, {1904, true}, {1905, false}, {1908, true},
		{1996, true}, {1999, false}, {2000, true}, {2001, false}, {2004, true}, {2023, false}, {2024, true},
		{2096, true}, {2098, false}, {2099, false},
	} {
		last := of(t, x.year, 2, 28)
		day, e := Of(x.year, 2, 29)
		if x.leap && (day != last+1 || e != api.OK) || !x.leap && (day != 0 || e != api.ErrDate) {
			t.Errorf("Of(%d, 2, 29) = %d, %d", x.year, day, e)
		}
		if day, e := Of(x.year, 2, 30); day != 0 || e != api.ErrDate {
			t.Errorf("Of(%d, 2, 30) = %d, %d", x.year, day, e)
		}
		next := last + 1
		if x.leap {
			next++
		}
		if day := of(t, x.year, 3, 1); day != next {
			t.Errorf("Of(%d, 3, 1) = %d, want %d", x.year, day, next)
		}
	}
}

func TestOfRefusesWhatIsOutside(t *testing.T) {
	for _, x := range [][3]int{
		{1899, 12, 31}, {1899, 1, 1}, {2100, 1, 1}, {2100, 2, 29}, {0, 1, 1}, {-1, 1, 1}, {-2000, 1, 1}, {99, 1, 1}, {3000, 6, 15},
		{2000, 0, 1}, {2000, 13, 1}, {2000, -1, 1}, {1900, 0, 31}, {2099, 13, 1}, {2000, 24, 1},
		{2000, 1, 0}, {2000, 1, 32}, {2000, 1, -1}, {2000, 4, 31}, {2001, 2, 29}, {2000, 2, 30}, {1900, 2, 29}, {1900, 1, 0},
		{2100, 13, 32}, {1899, 0, 0}, {0, 0, 0},
	} {
		if day, e := Of(x[0], x[1], x[2]); day != 0 || e != api.ErrDate {
			t.Errorf("Of(%d, %d, %d) = %d, %d, want ErrDate", x[0], x[1], x[2], day, e)
		}
	}
	for _, n := range []int{math.MinInt, math.MinInt + 1, math.MinInt32, -1 << 40, -1900, 1 << 32, 1<<32 + 1, 1<<32 + 2000, math.MaxInt32, math.MaxInt - 1, math.MaxInt} {
		for _, x := range [][3]int{{n, 1, 1}, {2000, n, 1}, {2000, 1, n}, {n, n, 1}, {n, 1, n}, {2000, n, n}, {n, n, n}} {
			if day, e := Of(x[0], x[1], x[2]); day != 0 || e != api.ErrDate {
				t.Errorf("Of(%d, %d, %d) = %d, %d, want ErrDate", x[0], x[1], x[2], day, e)
			}
		}
	}
}

func TestParts(t *testing.T) {
	for _, x := range []struct{ day, year, month, d int }{
		{0, 1900, 1, 1},
		{1, 1900, 1, 2},
		{30, 1900, 1, 31},
		{31, 1900, 2, 1},
		{58, 1900, 2, 28},
		{59, 1900, 3, 1},
		{364, 1900, 12, 31},
		{365, 1901, 1, 1},
		{36523, 1999, 12, 31},
		{36524, 2000, 1, 1},
		{36583, 2000, 2, 29},
		{36584, 2000, 3, 1},
		{api.MaxDay - 1, 2099, 12, 30},
		{api.MaxDay, 2099, 12, 31},
	} {
		year, month, d, e := Parts(x.day)
		if year != x.year || month != x.month || d != x.d || e != api.OK {
			t.Errorf("Parts(%d) = %d, %d, %d, %d", x.day, year, month, d, e)
		}
	}
}

func TestPartsOfEveryDay(t *testing.T) {
	for day := range api.MaxDay + 1 {
		want := at(day)
		year, month, d, e := Parts(day)
		if year != want.Year() || month != int(want.Month()) || d != want.Day() || e != api.OK {
			t.Fatalf("Parts(%d) = %d, %d, %d, %d, want %v", day, year, month, d, e, want)
		}
	}
}

func TestPartsRefusesWhatIsNoDay(t *testing.T) {
	for _, day := range noDays() {
		year, month, d, e := Parts(day)
		if year != 0 || month != 0 || d != 0 || e != api.ErrDate {
			t.Errorf("Parts(%d) = %d, %d, %d, %d, want ErrDate", day, year, month, d, e)
		}
	}
}

// P3.3

// later returns the day that the standard library finds n months later, or ErrDate.
func later(day, n int) (int, api.Errno) {
	x := at(day)
	month := int(x.Month()) + n
	begin, end := date(x.Year(), month, 1), date(x.Year(), month+1, 0)
	if begin.Year() < 1900 || begin.Year() > 2099 {
		return 0, api.ErrDate
	}
	return number(begin) + min(x.Day(), end.Day()) - 1, api.OK
}

func TestMonths(t *testing.T) {
	for _, x := range []struct {
		year, month, d int
		n              int
		wantYear       int
		wantMonth      int
		wantD          int
	}{
		{2023, 1, 31, 1, 2023, 2, 28},
		{2024, 1, 31, 1, 2024, 2, 29},
		{1900, 1, 31, 1, 1900, 2, 28},
		{2000, 1, 30, 1, 2000, 2, 29},
		{2023, 1, 28, 1, 2023, 2, 28},
		{2023, 1, 29, 1, 2023, 2, 28},
		{2023, 1, 27, 1, 2023, 2, 27},
		{2023, 3, 31, 1, 2023, 4, 30},
		{2023, 3, 31, -1, 2023, 2, 28},
		{2023, 5, 31, -1, 2023, 4, 30},
		{2023, 1, 31, 2, 2023, 3, 31},
		{2024, 2, 29, 12, 2025, 2, 28},
		{2024, 2, 29, -12, 2023, 2, 28},
		{2024, 2, 29, 48, 2028, 2, 29},
		{2023, 2, 28, 12, 2024, 2, 28},
		{2023, 2, 28, 1, 2023, 3, 28},
		{2023, 7, 15, 0, 2023, 7, 15},
		{2024, 2, 29, 0, 2024, 2, 29},
		{2023, 12, 31, 1, 2024, 1, 31},
		{2023, 1, 1, -1, 2022, 12, 1},
		{2023, 12, 15, 12, 2024, 12, 15},
		{2023, 1, 15, -12, 2022, 1, 15},
		{2023, 6, 15, 120, 2033, 6, 15},
		{1900, 1, 1, 2399, 2099, 12, 1},
		{1900, 1, 31, 2399, 2099, 12, 31},
		{2099, 12, 31, -2399, 1900, 1, 31},
		{2099, 12, 31, -2398, 1900, 2, 28},
		{1900, 2, 1, -1, 1900, 1, 1},
		{2099, 11, 30, 1, 2099, 12, 30},
	} {
		day, e := Months(of(t, x.year, x.month, x.d), x.n)
		if want := of(t, x.wantYear, x.wantMonth, x.wantD); day != want || e != api.OK {
			t.Errorf("%d-%d-%d by %d months is %d, %d, want %d", x.year, x.month, x.d, x.n, day, e, want)
		}
	}
}

func TestMonthsEndsWithTheCalendar(t *testing.T) {
	for _, x := range []struct{ day, n int }{
		{0, -1},
		{30, -1},
		{31, -2},
		{of(t, 1900, 12, 31), -12},
		{of(t, 1901, 1, 1), -13},
		{0, -12},
		{0, -2400},
		{0, 2400},
		{30, 2400},
		{api.MaxDay, 1},
		{of(t, 2099, 12, 1), 1},
		{of(t, 2099, 11, 30), 2},
		{of(t, 2099, 1, 1), 12},
		{api.MaxDay, 2400},
		{api.MaxDay, -2400},
		{of(t, 2000, 1, 1), -1201},
		{of(t, 2000, 1, 1), 1200},
		{of(t, 2000, 1, 1), 2400},
		{of(t, 2000, 1, 1), -2400},
	} {
		if day, e := Months(x.day, x.n); day != 0 || e != api.ErrDate {
			t.Errorf("Months(%d, %d) = %d, %d, want ErrDate", x.day, x.n, day, e)
		}
	}
}

func TestMonthsByEveryNumber(t *testing.T) {
	for _, day := range []int{0, 27, 28, 29, 30, 31, 58, 59, 364, 365, 1519, 36523, 36524, of(t, 2000, 1, 31), 36583, 36584,
		of(t, 2004, 2, 29), of(t, 2023, 5, 31), of(t, 2023, 8, 30), of(t, 2096, 2, 29), of(t, 2099, 2, 28), of(t, 2099, 11, 30), of(t, 2099, 12, 1), api.MaxDay} {
		for n := -2400; n <= 2400; n++ {
			want, wantE := later(day, n)
			if got, e := Months(day, n); got != want || e != wantE {
				t.Fatalf("Months(%d, %d) = %d, %d, want %d, %d", day, n, got, e, want, wantE)
			}
		}
	}
}

func TestMonthsOfEveryDay(t *testing.T) {
	for _, n := range []int{-2399, -1201, -1200, -13, -12, -11, -1, 0, 1, 2, 6, 11, 12, 13, 48, 120, 1199, 1200, 2399} {
		for day := range api.MaxDay + 1 {
			want, wantE := later(day, n)
			if got, e := Months(day, n); got != want || e != wantE {
				t.Fatalf("Months(%d, %d) = %d, %d, want %d, %d", day, n, got, e, want, wantE)
			}
		}
	}
}

func TestMonthsRefusesTooManyMonths(t *testing.T) {
	for _, n := range []int{-2401, 2401, -2402, 2402, 10000, -10000, math.MinInt32, math.MaxInt32, 1 << 32, -1 << 32, 1<<32 + 1, math.MinInt, math.MinInt + 1, math.MaxInt - 1, math.MaxInt} {
		for _, day := range []int{0, 1, 36524, api.MaxDay} {
			if got, e := Months(day, n); got != 0 || e != api.ErrRange {
				t.Errorf("Months(%d, %d) = %d, %d, want ErrRange", day, n, got, e)
			}
		}
		// The number of months decides before the day does.
		for _, day := range noDays() {
			if got, e := Months(day, n); got != 0 || e != api.ErrRange {
				t.Errorf("Months(%d, %d) = %d, %d, want ErrRange", day, n, got, e)
			}
		}
	}
}

func TestMonthsRefusesWhatIsNoDay(t *testing.T) {
	for _, day := range noDays() {
		for _, n := range []int{-2400, -1, 0, 1, 2400} {
			if got, e := Months(day, n); got != 0 || e != api.ErrDate {
				t.Errorf("Months(%d, %d) = %d, %d, want ErrDate", day, n, got, e)
			}
		}
	}
}

// P3.4

// birthdays counts the birthdays after a birth up to a day, year by year.
func birthdays(birth, on int) int {
	x, count := at(birth), 0
	for year := x.Year() + 1; year <= 2099; year++ {
		// In years without a 29th of February, the standard library takes it for the 1st of March.
		if number(date(year, int(x.Month()), x.Day())) <= on {
			count++
		}
	}
	return count
}

func TestAge(t *testing.T) {
	for _, x := range []struct {
		birth, on [3]int
		want      int
	}{
		{[3]int{1969, 8, 6}, [3]int{1969, 8, 6}, 0},
		{[3]int{1969, 8, 6}, [3]int{1969, 8, 7}, 0},
		{[3]int{1969, 8, 6}, [3]int{1970, 8, 5}, 0},
		{[3]int{1969, 8, 6}, [3]int{1970, 8, 6}, 1},
		{[3]int{1969, 8, 6}, [3]int{1970, 8, 7}, 1},
		{[3]int{1969, 8, 6}, [3]int{1970, 7, 31}, 0},
		{[3]int{1969, 8, 6}, [3]int{1970, 9, 1}, 1},
		{[3]int{1969, 8, 6}, [3]int{2026, 8, 5}, 56},
		{[3]int{1969, 8, 6}, [3]int{2026, 8, 6}, 57},
		{[3]int{1969, 12, 31}, [3]int{1970, 1, 1}, 0},
		{[3]int{1970, 1, 1}, [3]int{1970, 12, 31}, 0},
		{[3]int{1970, 1, 1}, [3]int{1971, 1, 1}, 1},
		{[3]int{1999, 3, 1}, [3]int{2000, 2, 29}, 0},
		{[3]int{1999, 3, 1}, [3]int{2000, 3, 1}, 1},
		{[3]int{1999, 2, 28}, [3]int{2000, 2, 28}, 1},
		{[3]int{1900, 1, 1}, [3]int{2099, 12, 31}, 199},
		{[3]int{1900, 12, 31}, [3]int{2099, 12, 30}, 198},
		{[3]int{1900, 12, 31}, [3]int{2099, 12, 31}, 199},
		{[3]int{2099, 12, 31}, [3]int{2099, 12, 31}, 0},
	} {
		birth, on := of(t, x.birth[0], x.birth[1], x.birth[2]), of(t, x.on[0], x.on[1], x.on[2])
		if age, e := Age(birth, on); age != x.want || e != api.OK {
			t.Errorf("the age from %v to %v is %d, %d, want %d", x.birth, x.on, age, e, x.want)
		}
	}
}

func TestAgeOfThoseBornOnThe29thOfFebruary(t *testing.T) {
	birth := of(t, 2004, 2, 29)
	for _, x := range []struct{ year, month, d, want int }{
		{2004, 2, 29, 0},
		{2004, 3, 1, 0},
		{2005, 2, 27, 0},
		{2005, 2, 28, 0},
		{2005, 3, 1, 1},
		{2005, 3, 2, 1},
		{2006, 2, 28, 1},
		{2006, 3, 1, 2},
		{2007, 2, 28, 2},
		{2007, 3, 1, 3},
		{2008, 2, 28, 3},
		{2008, 2, 29, 4},
		{2008, 3, 1, 4},
		{2009, 2, 28, 4},
		{2009, 3, 1, 5},
		{2024, 2, 28, 19},
		{2024, 2, 29, 20},
	} {
		if age, e := Age(birth, of(t, x.year, x.month, x.d)); age != x.want || e != api.OK {
			t.Errorf("the age on %d-%d-%d is %d, %d, want %d", x.year, x.month, x.d, age, e, x.want)
		}
	}
}

func TestAgeCountsBirthdays(t *testing.T) {
	births := []int{0, 58, 59, 364, 365, 36523, 36524, of(t, 2000, 2, 28), of(t, 2000, 2, 29), of(t, 2000, 3, 1),
		of(t, 2003, 2, 28), of(t, 2004, 2, 29), of(t, 2096, 2, 29), api.MaxDay - 1, api.MaxDay}
	for day := 0; day <= api.MaxDay; day += 997 {
		births = append(births, day)
	}
	for _, birth := range births {
		for on := birth; on <= api.MaxDay; on += 1 + on%19 {
			want := birthdays(birth, on)
			if age, e := Age(birth, on); age != want || e != api.OK {
				t.Fatalf("Age(%d, %d) = %d, %d, want %d", birth, on, age, e, want)
			}
		}
	}
}

func TestAgeGrowsOnBirthdaysOnly(t *testing.T) {
	for _, birth := range []int{0, of(t, 1904, 2, 29), of(t, 1969, 8, 6), of(t, 2000, 2, 29), of(t, 2001, 3, 1)} {
		x, want := at(birth), 0
		for on := birth; on <= api.MaxDay; on++ {
			now := at(on)
			if on > birth && on == number(date(now.Year(), int(x.Month()), x.Day())) {
				want++
			}
			if age, e := Age(birth, on); age != want || e != api.OK {
				t.Fatalf("Age(%d, %d) = %d, %d, want %d", birth, on, age, e, want)
			}
		}
	}
}

func TestAgeIsZeroOnTheDayItself(t *testing.T) {
	for day := range api.MaxDay + 1 {
		if age, e := Age(day, day); age != 0 || e != api.OK {
			t.Fatalf("Age(%d, %d) = %d, %d", day, day, age, e)
		}
	}
}

func TestAgeRefusesADayAheadOfBirth(t *testing.T) {
	for birth := 1; birth <= api.MaxDay; birth++ {
		for _, on := range []int{birth - 1, birth / 2, 0} {
			if age, e := Age(birth, on); age != 0 || e != api.ErrRange {
				t.Fatalf("Age(%d, %d) = %d, %d, want ErrRange", birth, on, age, e)
			}
		}
	}
}

func TestAgeRefusesWhatIsNoDay(t *testing.T) {
	for _, no := range noDays() {
		// Those on which on is less than birth as well are refused for the day, too.
		for _, x := range [][2]int{{no, 0}, {no, 36524}, {no, api.MaxDay}, {0, no}, {36524, no}, {api.MaxDay, no}, {no, no}} {
			if age, e := Age(x[0], x[1]); age != 0 || e != api.ErrDate {
				t.Errorf("Age(%d, %d) = %d, %d, want ErrDate", x[0], x[1], age, e)
			}
		}
	}
	for _, x := range [][2]int{{-1, -2}, {-2, -1}, {api.MaxDay + 2, api.MaxDay + 1}, {math.MaxInt, math.MinInt}, {math.MinInt, math.MaxInt}} {
		if age, e := Age(x[0], x[1]); age != 0 || e != api.ErrDate {
			t.Errorf("Age(%d, %d) = %d, %d, want ErrDate", x[0], x[1], age, e)
		}
	}
}

// Consequences

func TestOfPartsIsTheDay(t *testing.T) {
	for day := range api.MaxDay + 1 {
		year, month, d, e := Parts(day)
		if e != api.OK {
			t.Fatalf("Parts(%d) returns %d", day, e)
		}
		if back, e := Of(year, month, d); back != day || e != api.OK {
			t.Fatalf("Of(Parts(%d)) = %d, %d", day, back, e)
		}
	}
}

func TestDaysThatFollowEachOtherDifferByOne(t *testing.T) {
	want := 0
	for x := date(1900, 1, 1); x.Year() < 2100; x = x.AddDate(0, 0, 1) {
		if day, e := Of(x.Year(), int(x.Month()), x.Day()); day != want || e != api.OK {
			t.Fatalf("the day of %v is %d, %d, want %d", x, day, e, want)
		}
		want++
	}
	if want != api.MaxDay+1 {
		t.Errorf("there are %d days", want)
	}
}

// Examples

func TestExamples(t *testing.T) {
	if day := of(t, 1900, 3, 1); day != 59 {
		t.Error(day)
	}
	if day := of(t, 2000, 1, 1); day != 36524 {
		t.Error(day)
	}
	if day, e := Parse("000229", 1950); day != of(t, 2000, 2, 29) || e != api.OK {
		t.Error(day, e)
	}
	if day, e := Parse("000229", 1900); day != 0 || e != api.ErrDate {
		t.Error(day, e)
	}
	if day, e := Months(of(t, 2023, 1, 31), 1); day != of(t, 2023, 2, 28) || e != api.OK {
		t.Error(day, e)
	}
	birth := of(t, 2004, 2, 29)
	if age, e := Age(birth, of(t, 2005, 2, 28)); age != 0 || e != api.OK {
		t.Error(age, e)
	}
	if age, e := Age(birth, of(t, 2005, 3, 1)); age != 1 || e != api.OK {
		t.Error(age, e)
	}
}
