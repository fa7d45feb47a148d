package group

import (
	"bytes"
	"encoding/binary"
	"testing"

	"traveldoc/api"
	"traveldoc/samples"
)

// The literals of this file are made with another language's numbers of any size.

// P8.1

func TestElementLiterals(t *testing.T) {
	for _, x := range []int{3, 4, 5, 7, 9, 11, 12, 15, 16, 17, 19, 20, 65536, prime - 2, prime - 6, prime - 8, prime - 10, prime - 13} {
		if !Element(x) {
			t.Errorf("Element(%d) is false", x)
		}
	}
	for _, x := range []int{0, 1, 2, 6, 8, 10, 13, 14, 18, prime - 1, prime - 3, prime - 4, prime - 5, prime - 7, prime, prime + 4, -4, order + 1, 1234567890, 1000000007} {
		if Element(x) {
			t.Errorf("Element(%d) is true", x)
		}
	}
}

func TestElementOfResidues(t *testing.T) {
	for _, x := range residues() {
		if Element(x) != bigElement(x) {
			t.Errorf("Element(%d) is not %v", x, bigElement(x))
		}
	}
	for x := 1; x < 20000; x++ {
		if Element(x) != bigElement(x) {
			t.Fatalf("Element(%d) is not %v", x, bigElement(x))
		}
	}
}

func TestElementOfOtherNumbers(t *testing.T) {
	for _, x := range noResidues() {
		if Element(x) {
			t.Errorf("Element(%d) is true", x)
		}
	}
}

func TestMultiplyLiterals(t *testing.T) {
	for _, x := range []struct{ a, b, want int }{
		{1, 1, 1},
		{2, 3, 6},
		{1, prime - 1, prime - 1},
		{prime - 1, 2, prime - 2},
		{prime - 1, prime - 1, 1},
		{prime - 2, prime - 3, 6},
		{46341, 46341, 4702},
		{65536, 65536, 138},
		{2, order, prime - 1},
		{2, order + 1, 1},
		{1234567890, 1987654321, 705739239},
	} {
		if n, e := Multiply(x.a, x.b); n != x.want || e != api.OK {
			t.Errorf("Multiply(%d, %d) = %d, %d, want %d", x.a, x.b, n, e, x.want)
		}
	}
}

func TestMultiply(t *testing.T) {
	all := residues()
	for _, a := range all {
		for i := 0; i < len(all); i += 5 {
			b := all[i]
			if n, e := Multiply(a, b); n != bigProduct(a, b) || e != api.OK {
				t.Fatalf("Multiply(%d, %d) = %d, %d, want %d", a, b, n, e, bigProduct(a, b))
			}
		}
	}
}

func TestMultiplyRefusesOtherNumbers(t *testing.T) {
	for _, x := range noResidues() {
		for _, y := range []int{1, 2, 4, prime - 1, x, 0, prime} {
			for _, args := range [][2]int{{x, y}, {y, x}} {
				if n, e := Multiply(args[0], args[1]); n != 0 || e != api.ErrRange {
					t.Errorf("Multiply(%d, %d) = %d, %d, want ErrRange", args[0], args[1], n, e)
				}
			}
		}
	}
}

func TestPowerLiterals(t *testing.T) {
	for _, x := range []struct{ x, k, want int }{
		{4, 0, 1},
		{4, 1, 4},
		{4, 2, 16},
		{4, 3, 64},
		{4, 15, 1 << 30},
		{4, 16, 138},
		{4, 123456789, 436533508},
		{4, order - 1, 536870895},
		{4, order, 1},
		{2, 30, 1 << 30},
		{2, 31, 69},
		{2, 32, 138},
		{2, order - 1, order},
		{2, order, prime - 1},
		{3, 1000000, 199125202},
		{5, 1 << 29, 1269858426},
		{7, 1<<29 - 1, 1250859228},
		{1234567890, 987654321, 1280647504},
		{prime - 2, order - 1, order},
		{prime - 2, order, 1},
		{prime - 1, 0, 1},
		{prime - 1, 1, prime - 1},
		{prime - 1, 2, 1},
		{prime - 1, order - 1, 1},
		{prime - 1, order, prime - 1},
		{1, 0, 1},
		{1, 1, 1},
		{1, order, 1},
	} {
		if n, e := Power(x.x, x.k); n != x.want || e != api.OK {
			t.Errorf("Power(%d, %d) = %d, %d, want %d", x.x, x.k, n, e, x.want)
		}
	}
}

// Power takes all residues, also those that are no elements.
func TestPower(t *testing.T) {
	for _, x := range residues() {
		for _, k := range exponents() {
			if n, e := Power(x, k); n != bigPower(x, k) || e != api.OK {
				t.Fatalf("Power(%d, %d) = %d, %d, want %d", x, k, n, e, bigPower(x, k))
			}
		}
	}
}

// The reference is repeated multiplication, as a power is defined.
func TestPowersOneAfterTheOther(t *testing.T) {
	for _, x := range []int{2, 4, prime - 2, 1234567890} {
		want := 1
		for k := range 5000 {
			if n, e := Power(x, k); n != want || e != api.OK {
				t.Fatalf("Power(%d, %d) = %d, %d, want %d", x, k, n, e, want)
			}
			want = bigProduct(want, x)
		}
	}
}

func TestPowerRefusesOtherNumbers(t *testing.T) {
	for _, x := range noResidues() {
		for _, k := range []int{0, 1, 2, order, -1, order + 1} {
			if n, e := Power(x, k); n != 0 || e != api.ErrRange {
				t.Errorf("Power(%d, %d) = %d, %d, want ErrRange", x, k, n, e)
			}
		}
	}
}

func TestPowerRefusesExponents(t *testing.T) {
	for _, k := range noExponents() {
		for _, x := range []int{1, 2, 4, prime - 1, 0, prime, -1} {
			if n, e := Power(x, k); n != 0 || e != api.ErrRange {
				t.Errorf("Power(%d, %d) = %d, %d, want ErrRange", x, k, n, e)
			}
		}
	}
}

func TestInvertLiterals(t *testing.T) {
	for _, x := range []struct{ x, want int }{
		{1, 1},
		{2, order + 1},
		{3, 715827860},
		{4, 536870895},
		{5, 429496716},
		{65536, 155615227},
		{1234567890, 982265300},
		{order + 1, 2},
		{prime - 4, 1610612684},
		{prime - 2, order},
		{prime - 1, prime - 1},
	} {
		if n, e := Invert(x.x); n != x.want || e != api.OK {
			t.Errorf("Invert(%d) = %d, %d, want %d", x.x, n, e, x.want)
		}
	}
}

func TestInvert(t *testing.T) {
	for _, x := range residues() {
		n, e := Invert(x)
		if n != bigInverse(x) || e != api.OK {
			t.Errorf("Invert(%d) = %d, %d, want %d", x, n, e, bigInverse(x))
		}
		if one, e := Multiply(x, n); one != 1 || e != api.OK {
			t.Errorf("Multiply(%d, %d) = %d, %d, want 1", x, n, one, e)
		}
		if again, e := Invert(n); again != x || e != api.OK {
			t.Errorf("Invert(%d) = %d, %d, want %d", n, again, e, x)
		}
	}
}

func TestInvertRefusesOtherNumbers(t *testing.T) {
	for _, x := range noResidues() {
		if n, e := Invert(x); n != 0 || e != api.ErrRange {
			t.Errorf("Invert(%d) = %d, %d, want ErrRange", x, n, e)
		}
	}
}

// P8.2

// four returns the four bytes of a number.
func four(n int) []byte { return binary.BigEndian.AppendUint32(nil, uint32(n)) }

func TestEncode(t *testing.T) {
	for _, x := range []struct {
		x    int
		want string
	}{
		{3, "00000003"},
		{4, "00000004"},
		{65536, "00010000"},
		{prime - 2, "7fffffb9"},
	} {
		if b, e := Encode(x.x); !bytes.Equal(b, samples.Unhex(x.want)) || e != api.OK {
			t.Errorf("Encode(%d) = %x, %d, want %s", x.x, b, e, x.want)
		}
	}
	for _, x := range elements() {
		b, e := Encode(x)
		if !bytes.Equal(b, four(x)) || e != api.OK {
			t.Errorf("Encode(%d) = %x, %d, want %x", x, b, e, four(x))
		}
		if n, e := Decode(b); n != x || e != api.OK {
			t.Errorf("Decode(%x) = %d, %d, want %d", b, n, e, x)
		}
	}
}

func TestEncodeRefusesOtherNumbers(t *testing.T) {
	for _, x := range noElements() {
		if b, e := Encode(x); b != nil || e != api.ErrGroup {
			t.Errorf("Encode(%d) = %x, %d, want ErrGroup", x, b, e)
		}
	}
}

func TestDecode(t *testing.T) {
	for _, x := range []struct {
		b    string
		want int
	}{
		{"00000003", 3},
		{"00000004", 4},
		{"00010000", 65536},
		{"7fffffb9", prime - 2},
	} {
		if n, e := Decode(samples.Unhex(x.b)); n != x.want || e != api.OK {
			t.Errorf("Decode(%s) = %d, %d, want %d", x.b, n, e, x.want)
		}
	}
	for _, x := range elements() {
		if n, e := Decode(samples.Roomy(four(x))); n != x || e != api.OK {
			t.Errorf("Decode(%x) = %d, %d, want %d", four(x), n, e, x)
		}
	}
}

func TestDecodeRefusesOtherNumbers(t *testing.T) {
	for _, text := range []string{"00000000", "00000001", "00000002", "7fffffba", "7fffffbb", "7fffffbf", "7fffffff", "80000000", "80000004", "fffffffc", "ffffffff"} {
		if n, e := Decode(samples.Unhex(text)); n != 0 || e != api.ErrGroup {
			t.Errorf("Decode(%s) = %d, %d, want ErrGroup", text, n, e)
		}
	}
	for _, x := range noElements() {
		if x < 0 || x >= 1<<32 {
			continue
		}
		if n, e := Decode(four(x)); n != 0 || e != api.ErrGroup {
			t.Errorf("Decode(%x) = %d, %d, want ErrGroup", four(x), n, e)
		}
	}
}

// A wrong size is named before a wrong number.
func TestDecodeRefusesOtherSizes(t *testing.T) {
	for n := range 40 {
		if n == 4 {
			continue
		}
		element := make([]byte, n)
		if n > 0 {
			element[n-1] = 4
		}
		for _, b := range [][]byte{element, make([]byte, n), samples.Bytes(n), bytes.Repeat([]byte{0xff}, n), samples.Roomy(element)} {
			if x, e := Decode(b); x != 0 || e != api.ErrSize {
				t.Errorf("Decode(%x) = %d, %d, want ErrSize", b, x, e)
			}
		}
	}
	for _, b := range [][]byte{append(four(4), 0), four(4)[:3], append(four(4), four(4)...), make([]byte, api.MaxBytes)} {
		if x, e := Decode(b); x != 0 || e != api.ErrSize {
			t.Errorf("Decode of %d bytes = %d, %d, want ErrSize", len(b), x, e)
		}
	}
}

// P8.3

func TestPublic(t *testing.T) {
	for _, x := range []struct{ k, want int }{
		{1, 4},
		{2, 16},
		{3, 64},
		{15, 1 << 30},
		{16, 138},
		{1000, 138672005},
		{123456789, 436533508},
		{1 << 29, 2147482475},
		{order - 2, 1744830408},
		{order - 1, 536870895},
	} {
		if n, e := Public(x.k); n != x.want || e != api.OK {
			t.Errorf("Public(%d) = %d, %d, want %d", x.k, n, e, x.want)
		}
	}
	for _, k := range secrets() {
		if n, e := Public(k); n != bigPower(api.GroupGenerator, k) || !Element(n) || e != api.OK {
			t.Errorf("Public(%d) = %d, %d, want %d", k, n, e, bigPower(api.GroupGenerator, k))
		}
	}
}

func TestPublicRefusesOtherNumbers(t *testing.T) {
	for _, k := range noSecrets() {
		if n, e := Public(k); n != 0 || e != api.ErrRange {
			t.Errorf("Public(%d) = %d, %d, want ErrRange", k, n, e)
		}
	}
}

func TestShare(t *testing.T) {
	for _, x := range []struct{ k, other, want int }{
		{1, 4, 4},
		{1, prime - 2, prime - 2},
		{3, 4, 64},
		{1 << 29, 5, 1269858426},
		{1<<29 - 1, 7, 1250859228},
		{1000000, 3, 199125202},
		{order - 1, 4, 536870895},
		{order - 1, prime - 2, order},
	} {
		if n, e := Share(x.k, x.other); n != x.want || e != api.OK {
			t.Errorf("Share(%d, %d) = %d, %d, want %d", x.k, x.other, n, e, x.want)
		}
	}
	for _, other := range elements() {
		for _, k := range secrets() {
			if n, e := Share(k, other); n != bigPower(other, k) || !Element(n) || e != api.OK {
				t.Fatalf("Share(%d, %d) = %d, %d, want %d", k, other, n, e, bigPower(other, k))
			}
		}
	}
}

// A wrong secret is named before a wrong element.
func TestShareRefusesOtherSecrets(t *testing.T) {
	for _, k := range noSecrets() {
		for _, other := range []int{4, prime - 2, 0, 1, 2, prime - 1, prime, -1, k} {
			if n, e := Share(k, other); n != 0 || e != api.ErrRange {
				t.Errorf("Share(%d, %d) = %d, %d, want ErrRange", k, other, n, e)
			}
		}
	}
}

func TestShareRefusesWhatIsNoElement(t *testing.T) {
	for _, other := range noElements() {
		for _, k := range []int{1, 2, 12345, order - 1} {
			if n, e := Share(k, other); n != 0 || e != api.ErrGroup {
				t.Errorf("Share(%d, %d) = %d, %d, want ErrGroup", k, other, n, e)
			}
		}
	}
}
