package sign

import (
	"bytes"
	"crypto/sha256"
	"encoding/binary"
	"math"
	"math/big"
	"testing"

	"traveldoc/api"
	"traveldoc/samples"
)

// Help for the tests of this package. What it is compared with are the document's definitions, with the digest and the numbers of any size of the standard library.

const (
	prime = api.GroupPrime
	order = api.GroupOrder
)

// power returns the power of x modulo GroupPrime.
func power(x, k int) int {
	return int(new(big.Int).Exp(big.NewInt(int64(x)), big.NewInt(int64(k)), big.NewInt(prime)).Int64())
}

// product returns the product of a and b modulo GroupPrime.
func product(a, b int) int {
	n := new(big.Int).Mul(big.NewInt(int64(a)), big.NewInt(int64(b)))
	return int(n.Mod(n, big.NewInt(prime)).Int64())
}

// orderProduct returns the product of a and b modulo GroupOrder.
func orderProduct(a, b int) int {
	n := new(big.Int).Mul(big.NewInt(int64(a)), big.NewInt(int64(b)))
	return int(n.Mod(n, big.NewInt(order)).Int64())
}

// orderInverse returns the inverse of x modulo GroupOrder.
func orderInverse(x int) int {
	return int(new(big.Int).ModInverse(big.NewInt(int64(x)), big.NewInt(order)).Int64())
}

// public returns the public key of a secret.
func public(k int) int { return power(4, k) }

// isElement reports whether a number is an element, by the definition in chapter 8.
func isElement(x int) bool { return 1 < x && x < prime && power(x, order) == 1 }

func isPermitted(n int) bool { return 0 <= n && n < order }

// digested returns the number that a digest begins with, modulo another one.
func digested(n int, message []byte, modulo int) int {
	sum := sha256.Sum256(append(binary.BigEndian.AppendUint32(nil, uint32(n)), message...))
	out := new(big.Int).SetBytes(sum[:7])
	return int(out.Mod(out, big.NewInt(int64(modulo))).Int64())
}

func definedChallenge(r int, message []byte) int { return digested(r, message, order) }

// definedWith returns the signature that a secret gives with the exponent n. Sign has one exponent for each message, but Verify takes the signatures with all of them.
func definedWith(k, n int, message []byte) api.Signature {
	c := definedChallenge(power(4, n), message)
	s := new(big.Int).Mul(big.NewInt(int64(c)), big.NewInt(int64(k)))
	s.Add(s, big.NewInt(int64(n)))
	return api.Signature{E: c, S: int(s.Mod(s, big.NewInt(order)).Int64())}
}

func definedSign(k int, message []byte) api.Signature {
	return definedWith(k, 1+digested(k, message, order-1), message)
}

func definedVerify(public int, message []byte, s api.Signature) bool {
	if !isElement(public) || !isPermitted(s.E) || !isPermitted(s.S) {
		return false
	}
	return s.E == definedChallenge(product(power(4, s.S), power(public, order-s.E)), message)
}

// secrets returns small and great secrets, and those around powers of two.
func secrets() []int {
	all := []int{12345, 123456789, 987654321, order / 2, order/2 + 1}
	for i := 1; i <= 10; i++ {
		all = append(all, i, order-i)
	}
	for i := 4; i < 30; i++ {
		all = append(all, 1<<i, 1<<i-1, 1<<i+1)
	}
	return all
}

// outside returns numbers of any size that are no secrets, no public keys and no numbers of a signature, and would be if they were cut off or divided.
func outside() []int {
	return []int{-1, -2, -4, -12345, -order, 1 - order, -order - 1, 4 - order, -2 * order, -prime, 1 - prime, 4 - prime,
		math.MinInt32, math.MinInt32 - 1, math.MinInt32 + 4, -1 << 32, 4 - 1<<32, -1 << 40, -1 << 62, math.MinInt, math.MinInt + 1, math.MinInt + 4,
		prime, prime + 1, prime + 4, 2 * prime, 2*prime + 4, prime * prime, 4 * order, 4*order + 4, math.MaxInt32, math.MaxInt32 + 1, 1<<31 + 4,
		1<<32 - 1, 1 << 32, 1<<32 + 1, 1<<32 + 4, 1<<40 + 4, 1 << 62, 1<<62 + 4, math.MaxInt - 1, math.MaxInt}
}

// noSecrets returns numbers that are no secrets.
func noSecrets() []int {
	return append(outside(), 0, order, order+1, order+2, order+12345, 1<<30, 2*order, 2*order+1, prime-2, prime-1)
}

// notPermitted returns numbers that are not from 0 to GroupOrder - 1.
func notPermitted() []int {
	return append(outside(), order, order+1, order+2, order+12345, 1<<30, 2*order-1, 2*order, 2*order+1, prime-1)
}

// permitted returns numbers from 0 to GroupOrder - 1.
func permitted() []int { return append(secrets(), 0) }

// noElements returns numbers of any size that are no elements.
func noElements() []int {
	all := append(outside(), 0, 1, 2, prime-4, prime-3, prime-1)
	for _, k := range secrets() {
		all = append(all, prime-public(k), prime+public(k), -public(k), public(k)-prime, public(k)+1<<32)
	}
	return all
}

// shifts are what a number may be off by and still be the same if it is cut off or divided.
func shifts() []int {
	return []int{order, -order, 2 * order, -2 * order, prime, -prime, prime - 1, 1 << 31, -1 << 31, 1 << 32, -1 << 32, 1 << 62, -1 << 62, math.MinInt}
}

// messages returns messages of many lengths, among them those around which the digest needs a further block.
func messages() [][]byte {
	all := [][]byte{nil, {}, []byte("abc"), {0}, {0, 0}, make([]byte, 64), bytes.Repeat([]byte{0xff}, 100)}
	for n := range 130 {
		all = append(all, samples.Bytes(n))
	}
	return append(all, samples.Bytes(1000), samples.Bytes(api.MaxBytes))
}

// fewMessages are for tests that go through many numbers.
func fewMessages() [][]byte {
	return [][]byte{nil, []byte("abc"), samples.Bytes(51), samples.Bytes(52), samples.Bytes(60)}
}

// signature returns a result that has to be one.
func signature(t *testing.T, k int, message []byte) api.Signature {
	t.Helper()
	s, e := Sign(k, message)
	if e != api.OK {
		t.Fatalf("Sign(%d, %x) returns the error %d", k, message, e)
	}
	return s
}

// none reports whether a result is that of a call with an error.
func none(s api.Signature) bool { return s == api.Signature{} }

// Examples

func TestExamples(t *testing.T) {
	for _, m := range messages() {
		if s, e := Sign(0, m); !none(s) || e != api.ErrRange {
			t.Errorf("Sign(0, %x) = %v, %d, want ErrRange", m, s, e)
		}
		if s := signature(t, 1, m); Verify(1, m, s) {
			t.Errorf("Verify(1, %x, %v) is true", m, s)
		}
	}
	if s, e := Decode(bytes.Repeat([]byte{255}, 8)); !none(s) || e != api.ErrRange {
		t.Errorf("Decode of 8 bytes 255 = %v, %d, want ErrRange", s, e)
	}
}

// Consequences

func TestWhatIsSignedIsVerified(t *testing.T) {
	for _, k := range secrets() {
		for _, m := range messages()[:100] {
			if s := signature(t, k, m); !Verify(public(k), m, s) {
				t.Fatalf("Verify(%d, %x, %v) is false for the secret %d", public(k), m, s, k)
			}
		}
	}
	for _, m := range messages() {
		for _, k := range []int{1, 12345, order - 1} {
			if s := signature(t, k, m); !Verify(public(k), m, s) {
				t.Fatalf("Verify(%d, %x, %v) is false for the secret %d", public(k), m, s, k)
			}
		}
	}
}

func TestWhatIsSignedIsVerifiedBehindItsBytes(t *testing.T) {
	for _, k := range secrets() {
		for _, m := range fewMessages() {
			s := signature(t, k, m)
			b, e := Encode(s)
			again, f := Decode(b)
			if e != api.OK || f != api.OK || again != s || !Verify(public(k), m, again) {
				t.Errorf("the signature %v of %x with %d becomes %x, %d and %v, %d", s, m, k, b, e, again, f)
			}
		}
	}
}

// R2 and R3

func TestMessagesStay(t *testing.T) {
	for _, body := range messages() {
		m := samples.Roomy(body)
		before := bytes.Clone(m[:cap(m)])
		s, e := Sign(12345, m)
		if e != api.OK || !Verify(public(12345), m, s) || Verify(public(12346), m, s) || Verify(1, m, s) {
			t.Errorf("Sign of %x = %v, %d", m, s, e)
		}
		Sign(0, m)
		if !bytes.Equal(m[:cap(m)], before) {
			t.Fatalf("a message of %d bytes is changed", len(m))
		}
	}
}

// A capacity is no part of a message.
func TestCapacityDoesNotMatter(t *testing.T) {
	for _, m := range messages() {
		s := signature(t, 12345, m)
		if got := signature(t, 12345, samples.Roomy(m)); got != s {
			t.Errorf("the signature of %x is %v with room behind it and %v without", m, got, s)
		}
		if !Verify(public(12345), samples.Roomy(m), s) {
			t.Errorf("the signature of %x is not verified with room behind it", m)
		}
	}
}

func TestDecodeLeavesItsArgument(t *testing.T) {
	for _, body := range [][]byte{{0, 0, 0, 1, 0, 0, 0, 2}, bytes.Repeat([]byte{0xff}, 8), samples.Bytes(7), samples.Bytes(9), {}} {
		b := samples.Roomy(body)
		before := bytes.Clone(b[:cap(b)])
		Decode(b)
		if !bytes.Equal(b[:cap(b)], before) {
			t.Errorf("Decode changes %x", body)
		}
	}
}

func TestEncodedSignaturesAreNew(t *testing.T) {
	s, want := api.Signature{E: 1, S: 2}, []byte{0, 0, 0, 1, 0, 0, 0, 2}
	first, e := Encode(s)
	second, f := Encode(s)
	if e != api.OK || f != api.OK {
		t.Fatal(e, f)
	}
	samples.Scribble(second)
	if third, e := Encode(s); !bytes.Equal(first, want) || !bytes.Equal(third, want) || e != api.OK {
		t.Errorf("Encode(%v) is %x and then %x", s, first, third)
	}
}

func TestNilIsEmpty(t *testing.T) {
	for _, k := range secrets() {
		s := signature(t, k, nil)
		if got := signature(t, k, []byte{}); got != s {
			t.Errorf("Sign of %d is %v for nil and %v for empty", k, s, got)
		}
		if !Verify(public(k), nil, s) || !Verify(public(k), []byte{}, s) {
			t.Errorf("the signature %v of no bytes is not verified as nil, or as empty", s)
		}
	}
	for _, b := range [][]byte{nil, {}} {
		if s, e := Decode(b); !none(s) || e != api.ErrSize {
			t.Errorf("Decode(%#v) = %v, %d, want ErrSize", b, s, e)
		}
	}
}
