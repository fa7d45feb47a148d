package group

import (
	"bytes"
	"math"
	"math/big"
	"math/rand"
	"testing"

	"traveldoc/api"
	"traveldoc/samples"
)

// Help for the tests of this package. What it is compared with are numbers of any size of the standard library.

const (
	prime = api.GroupPrime
	order = api.GroupOrder
)

// bigPower returns the power of x modulo GroupPrime.
func bigPower(x, k int) int {
	return int(new(big.Int).Exp(big.NewInt(int64(x)), big.NewInt(int64(k)), big.NewInt(prime)).Int64())
}

// bigProduct returns the product of a and b modulo GroupPrime.
func bigProduct(a, b int) int {
	n := new(big.Int).Mul(big.NewInt(int64(a)), big.NewInt(int64(b)))
	return int(n.Mod(n, big.NewInt(prime)).Int64())
}

// bigInverse returns the inverse of x modulo GroupPrime.
func bigInverse(x int) int {
	return int(new(big.Int).ModInverse(big.NewInt(int64(x)), big.NewInt(prime)).Int64())
}

// bigElement reports whether a residue is an element, by the chapter's definition.
func bigElement(x int) bool { return x != 1 && bigPower(x, order) == 1 }

// residues returns residues: small and great ones, those around powers of two, the order and the root of the prime, and many others.
func residues() []int {
	all := []int{46340, 46341, 46342, 65535, 65536, order - 1, order, order + 1, order + 2}
	for i := 1; i <= 200; i++ {
		all = append(all, i, prime-i)
	}
	for i := 8; i < 31; i++ {
		all = append(all, 1<<i, 1<<i-1, 1<<i+1)
	}
	r := rand.New(rand.NewSource(8))
	for range 500 {
		all = append(all, 1+r.Intn(prime-1))
	}
	return all
}

// elements returns the elements among the residues.
func elements() []int {
	var all []int
	for _, x := range residues() {
		if bigElement(x) {
			all = append(all, x)
		}
	}
	return all
}

// noElements returns the residues that are no elements, and numbers that are no residues.
func noElements() []int {
	all := noResidues()
	for _, x := range residues() {
		if !bigElement(x) {
			all = append(all, x)
		}
	}
	return all
}

// outside returns numbers that are no residues and no exponents of any size, and would be if they were cut off or divided.
func outside() []int {
	return []int{-1, -2, -4, -order, -prime, -prime + 1, -prime - 1, 4 - prime, 4 - 2*prime, math.MinInt32, math.MinInt32 - 1, math.MinInt32 + 4,
		-1 << 32, 4 - 1<<32, -1 << 40, math.MinInt, math.MinInt + 1, math.MinInt + 4,
		prime, prime + 1, prime + 2, prime + 4, 2 * prime, 2*prime + 1, 2*prime + 4, prime * prime, math.MaxInt32, math.MaxInt32 + 1, 1<<31 + 4,
		1<<32 - 1, 1 << 32, 1<<32 + 1, 1<<32 + 4, 1<<40 + 4, 1<<62 + 4, math.MaxInt - 1, math.MaxInt}
}

func noResidues() []int { return append(outside(), 0) }

// exponents returns exponents that Power permits: small and great ones, and those around powers of two.
func exponents() []int {
	var all []int
	for i := range 20 {
		all = append(all, i, order-i)
	}
	for i := 4; i < 30; i++ {
		all = append(all, 1<<i, 1<<i-1, 1<<i+1)
	}
	r := rand.New(rand.NewSource(9))
	for range 50 {
		all = append(all, r.Intn(order+1))
	}
	return all
}

// noExponents returns numbers that are no exponents for Power.
func noExponents() []int {
	return append(outside(), order+1, order+2, order+4, 2*order, prime-2, prime-1)
}

// secrets returns the exponents that are secrets.
func secrets() []int {
	var all []int
	for _, k := range exponents() {
		if k != 0 && k != order {
			all = append(all, k)
		}
	}
	return all
}

// noSecrets returns numbers that are no secrets.
func noSecrets() []int { return append(noExponents(), 0, order) }

// number returns a result that has to be one.
func number(t *testing.T, n int, e api.Errno) int {
	t.Helper()
	if e != api.OK {
		t.Fatalf("the error %d", e)
	}
	return n
}

func public(t *testing.T, k int) int {
	t.Helper()
	n, e := Public(k)
	return number(t, n, e)
}

// The definitions stand on the constants of package api.
func TestTheGroupIsAsTheDefinitionsSay(t *testing.T) {
	for _, x := range [][2]int{{prime, 1<<31 - 69}, {order, 1<<30 - 35}, {prime, 2*order + 1}} {
		if x[0] != x[1] {
			t.Errorf("the group has %d in place of %d", x[0], x[1])
		}
	}
	for _, n := range []int64{prime, order} {
		if !big.NewInt(n).ProbablyPrime(20) {
			t.Errorf("%d is no prime", n)
		}
	}
	if !bigElement(api.GroupGenerator) {
		t.Error("the generator is no element")
	}
}

// Examples

func TestExamples(t *testing.T) {
	if !Element(api.GroupGenerator) || Element(1) || Element(prime-1) {
		t.Error(Element(api.GroupGenerator), Element(1), Element(prime-1))
	}
	if n, e := Power(4, 3); n != 64 || e != api.OK {
		t.Error(n, e)
	}
	for _, x := range elements() {
		if n, e := Power(x, order); n != 1 || e != api.OK {
			t.Errorf("Power(%d, GroupOrder) = %d, %d, want 1", x, n, e)
		}
	}
	if n, e := Public(0); n != 0 || e != api.ErrRange {
		t.Error(n, e)
	}
}

// Consequences

// inGroup reports whether a number is an element or 1.
func inGroup(x int) bool { return x == 1 || Element(x) }

func TestProductsOfElements(t *testing.T) {
	all := elements()
	for i, x := range all {
		for _, y := range []int{x, all[(i+1)%len(all)], all[(i*7+3)%len(all)], prime - 2, 3, 4} {
			if n, e := Multiply(x, y); !inGroup(n) || e != api.OK {
				t.Errorf("Multiply(%d, %d) = %d, %d, which is no element and not 1", x, y, n, e)
			}
		}
	}
}

func TestPowersOfElements(t *testing.T) {
	for _, x := range elements() {
		for _, k := range exponents() {
			n, e := Power(x, k)
			if !inGroup(n) || e != api.OK {
				t.Fatalf("Power(%d, %d) = %d, %d, which is no element and not 1", x, k, n, e)
			}
			// The order is a prime, so that no exponent between leads to 1.
			if (n == 1) != (k == 0 || k == order) {
				t.Fatalf("Power(%d, %d) = %d", x, k, n)
			}
		}
	}
}

func TestInversesOfElements(t *testing.T) {
	for _, x := range elements() {
		n, e := Invert(x)
		if !Element(n) || e != api.OK {
			t.Errorf("Invert(%d) = %d, %d, which is no element", x, n, e)
		}
		// The power before the last one is the inverse, too.
		if m, e := Power(x, order-1); m != n || e != api.OK {
			t.Errorf("Power(%d, GroupOrder - 1) = %d, %d, want %d", x, m, e, n)
		}
	}
	if n, e := Invert(1); n != 1 || e != api.OK {
		t.Errorf("Invert(1) = %d, %d", n, e)
	}
}

// Half of the residues are elements or 1: of a residue and its negative one, exactly one is.
func TestTheGroupHasGroupOrderNumbers(t *testing.T) {
	for _, x := range residues() {
		if inGroup(x) == inGroup(prime-x) {
			t.Errorf("of %d and %d, both or none are in the group", x, prime-x)
		}
	}
}

func TestBothSidesShareTheSame(t *testing.T) {
	all := secrets()
	for i, a := range all {
		for _, b := range []int{a, all[(i+1)%len(all)], all[(i*5+2)%len(all)], 1, order - 1} {
			m, e := Share(a, public(t, b))
			n, f := Share(b, public(t, a))
			if m != n || e != api.OK || f != api.OK || !Element(m) {
				t.Errorf("with the secrets %d and %d, the sides have %d, %d and %d, %d", a, b, m, e, n, f)
			}
			if want := bigPower(bigPower(4, a), b); m != want {
				t.Errorf("with the secrets %d and %d, the sides have %d, want %d", a, b, m, want)
			}
		}
	}
}

// R2 and R3

func TestDecodeLeavesItsArgument(t *testing.T) {
	for n := range 9 {
		b := samples.Roomy(samples.Bytes(n))
		before := bytes.Clone(b[:cap(b)])
		Decode(b)
		if !bytes.Equal(b[:cap(b)], before) {
			t.Errorf("Decode changes its argument of %d bytes", n)
		}
	}
	b := samples.Roomy([]byte{0, 0, 0, 4})
	before := bytes.Clone(b[:cap(b)])
	if x, e := Decode(b); x != 4 || e != api.OK || !bytes.Equal(b[:cap(b)], before) {
		t.Errorf("Decode = %d, %d and leaves %x", x, e, b)
	}
}

func TestEncodedElementsAreNew(t *testing.T) {
	first, e := Encode(4)
	second, f := Encode(4)
	if e != api.OK || f != api.OK {
		t.Fatal(e, f)
	}
	samples.Scribble(second)
	if third, e := Encode(4); !bytes.Equal(first, []byte{0, 0, 0, 4}) || !bytes.Equal(third, first) || e != api.OK {
		t.Errorf("Encode(4) is %x and then %x", first, third)
	}
}

func TestNilIsEmpty(t *testing.T) {
	for _, b := range [][]byte{nil, {}} {
		if x, e := Decode(b); x != 0 || e != api.ErrSize {
			t.Errorf("Decode(%#v) = %d, %d, want ErrSize", b, x, e)
		}
	}
}
