package optical

import (
	"math/rand"
	"strings"
	"testing"

	"traveldoc/api"
)

// Help for the tests of this package.

// characters has each character at the place that is its value; the filler stands apart.
const characters = "0123456789ABCDEFGHIJKLMNOPQRSTUVWXYZ"

// definedValue is the value of a character as the definitions have it, and -1 for other bytes.
func definedValue(c byte) int {
	if c == '<' {
		return 0
	}
	return strings.IndexByte(characters, c)
}

// definedDigit is the check digit of characters as P10.1 has it.
func definedDigit(s string) string {
	sum := 0
	for i, c := range []byte(s) {
		switch i % 3 {
		case 0:
			sum += 7 * definedValue(c)
		case 1:
			sum += 3 * definedValue(c)
		case 2:
			sum += definedValue(c)
		}
	}
	return characters[sum%10 : sum%10+1]
}

// otherBytes returns the bytes that are no characters.
func otherBytes() []byte {
	var all []byte
	for c := range 256 {
		if definedValue(byte(c)) < 0 {
			all = append(all, byte(c))
		}
	}
	return all
}

// texts returns all strings of up to n pieces.
func texts(pieces []string, n int) []string {
	all := []string{""}
	from := 0
	for range n {
		to := len(all)
		for _, s := range all[from:to] {
			for _, piece := range pieces {
				all = append(all, s+piece)
			}
		}
		from = to
	}
	return all
}

// samplesOf returns strings of 0 to 80 bytes of an alphabet.
func samplesOf(alphabet string) []string {
	var all []string
	r := rand.New(rand.NewSource(10))
	for n := range 81 {
		for range 5 {
			b := make([]byte, n)
			for i := range b {
				b[i] = alphabet[r.Intn(len(alphabet))]
			}
			all = append(all, string(b))
		}
	}
	return all
}

// with returns s with another byte at i.
func with(s string, i int, c byte) string { return s[:i] + string([]byte{c}) + s[i+1:] }

// P10.1

func TestValueOfEveryByte(t *testing.T) {
	count := 0
	for i := range 256 {
		c := byte(i)
		if n := Value(c); n != definedValue(c) {
			t.Errorf("Value(%q) = %d, want %d", c, n, definedValue(c))
		}
		if Value(c) >= 0 {
			count++
		}
	}
	if count != 37 {
		t.Errorf("there are %d characters", count)
	}
}

func TestValueLiterals(t *testing.T) {
	for _, x := range []struct {
		c    byte
		want int
	}{
		{'0', 0}, {'1', 1}, {'9', 9}, {'A', 10}, {'B', 11}, {'Y', 34}, {'Z', 35}, {'<', 0},
		{'/', -1}, {':', -1}, {';', -1}, {'=', -1}, {'>', -1}, {'@', -1}, {'[', -1}, {'`', -1}, {'a', -1}, {'z', -1},
		{' ', -1}, {'-', -1}, {0, -1}, {127, -1}, {128, -1}, {0xc3, -1}, {255, -1},
	} {
		if n := Value(x.c); n != x.want {
			t.Errorf("Value(%q) = %d, want %d", x.c, n, x.want)
		}
	}
}

func TestValid(t *testing.T) {
	for _, s := range append(samplesOf(characters+"<"), "", "<", "<<<", "0", "A", characters, strings.Repeat("Z", 100000)) {
		if !Valid(s) {
			t.Errorf("Valid(%q) is false", s)
		}
	}
	for _, s := range []string{" ", "a", "AB C", "É", "ab", "A\n", "\x00", "\xff", "A-B", "<>", "Ａ", "٣", strings.Repeat("Z", 100000) + "z"} {
		if Valid(s) {
			t.Errorf("Valid(%q) is true", s)
		}
	}
}

func TestDigitLiterals(t *testing.T) {
	for _, x := range []struct{ s, want string }{
		{"", "0"}, {"<", "0"}, {"0", "0"}, {"<<<<<<", "0"},
		{"1", "7"}, {"01", "3"}, {"001", "1"}, {"0001", "7"}, {"00001", "3"}, {"000001", "1"}, {"0000001", "7"},
		{"A", "0"}, {"B", "7"}, {"0B", "3"}, {"00B", "1"}, {"Z", "5"}, {"<Z", "5"}, {"<<Z", "5"}, {"9", "3"}, {"99", "0"}, {"999", "9"},
		{"520727", "3"}, {"AB2134<<<", "5"}, {"740812", "2"}, {"120415", "9"}, {"690806", "1"}, {"940623", "6"}, {"L898902C<", "3"},
		{"ZE184226B<<<<<", "1"}, {"L898902C<369080619406236ZE184226B<<<<<1", "4"}, {"D23145890", "7"}, {"340712", "7"}, {"950712", "2"},
		{"HA672242<", "6"}, {"HA672242<658022549601086<<<<<<<<<<<<<<0", "8"}, {"L898902C3", "6"},
	} {
		if got, e := Digit(x.s); got != x.want || e != api.OK {
			t.Errorf("Digit(%q) = %q, %d, want %q", x.s, got, e, x.want)
		}
	}
}

func TestDigit(t *testing.T) {
	all := append(samplesOf(characters+"<"), texts(strings.Split(characters+"<", ""), 3)...)
	for _, n := range []int{1000, 1 << 20, 1<<20 + 1, 1<<20 + 2} {
		all = append(all, strings.Repeat("Z", n))
	}
	for _, s := range all {
		if got, e := Digit(s); got != definedDigit(s) || e != api.OK {
			t.Fatalf("Digit(%.40q) = %q, %d, want %q", s, got, e, definedDigit(s))
		}
	}
}

func TestOneOtherByteIsEnough(t *testing.T) {
	for _, s := range []string{"0", "<", "AB", "520727", "AB2134<<<", characters, strings.Repeat("<", 44)} {
		for i := range len(s) {
			for _, c := range otherBytes() {
				wrong := with(s, i, c)
				if Valid(wrong) {
					t.Errorf("Valid(%q) is true", wrong)
				}
				if got, e := Digit(wrong); got != "" || e != api.ErrCharacter {
					t.Errorf("Digit(%q) = %q, %d, want ErrCharacter", wrong, got, e)
				}
			}
		}
	}
}

// Consequences

func TestOneWrongDigitIsNoticed(t *testing.T) {
	for _, s := range append(samplesOf(characters+"<"), samplesOf("0123456789")...) {
		right, _ := Digit(s)
		for i := range len(s) {
			if s[i] < '0' || s[i] > '9' {
				continue
			}
			for c := byte('0'); c <= '9'; c++ {
				if got, e := Digit(with(s, i, c)); e != api.OK || (got == right) != (c == s[i]) {
					t.Fatalf("Digit(%q) = %q, %d, and %q for %q", with(s, i, c), got, e, right, s)
				}
			}
		}
	}
}

// Neighbours stand at each place of the three weights, with other characters around them.
func TestWhichNeighboursCanBeExchangedUnnoticed(t *testing.T) {
	unnoticed := 0
	for _, ahead := range []string{"", "7", "K<", "123", "ABCDE"} {
		for _, a := range []byte(characters + "<") {
			for _, b := range []byte(characters + "<") {
				one, _ := Digit(ahead + string([]byte{a, b}) + "8Q")
				two, _ := Digit(ahead + string([]byte{b, a}) + "8Q")
				same := (definedValue(a)-definedValue(b))%5 == 0
				if (one == two) != same {
					t.Errorf("behind %q, %q and %q: %s and %s", ahead, a, b, one, two)
				}
				if a != b && same {
					unnoticed++
				}
			}
		}
	}
	if unnoticed == 0 {
		t.Error("all exchanges are noticed")
	}
}

// Examples

func TestExamples(t *testing.T) {
	for _, x := range []struct{ s, want string }{{"520727", "3"}, {"AB2134<<<", "5"}} {
		if got, e := Digit(x.s); got != x.want || e != api.OK {
			t.Error(x.s, got, e)
		}
	}
	if got, e := Transliterate("Müller-Weiß, Dr."); got != "MUELLER WEISS DR" || e != api.OK {
		t.Error(got, e)
	}
	if got, e := Names("VAN DER MUELLEN", "ANNA MARIA", 39); got != "VAN<DER<MUELLEN<<ANNA<MARIA<<<<<<<<<<<<" || e != api.OK {
		t.Error(got, e)
	}
	if surname, given, full, e := Split("A<<<B"); surname != "" || given != "" || full || e != api.ErrForm {
		t.Error(surname, given, full, e)
	}
}
