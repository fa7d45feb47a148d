package sign

import (
	"bytes"
	"encoding/binary"
	"testing"

	"traveldoc/api"
	"traveldoc/samples"
)

// P9.1

func TestSignLiterals(t *testing.T) {
	for _, x := range []struct {
		k       int
		message []byte
		e, s    int
	}{
		{1, nil, 360280718, 592043240},
		{1, []byte("abc"), 344337365, 206745539},
		{1, []byte{0}, 139926351, 169111731},
		{1, samples.Bytes(60), 723908632, 969484007},
		{2, nil, 791828577, 536361629},
		{3, samples.Bytes(1000), 734796751, 311832940},
		{1000, []byte("abc"), 703795959, 670174916},
		{123456789, nil, 136045891, 539499683},
		{123456789, samples.Bytes(60), 371917439, 800086417},
		{1 << 29, []byte{0}, 946556756, 399186507},
		{order - 2, nil, 11130170, 526947468},
		{order - 1, nil, 734536089, 422474824},
		{order - 1, []byte("abc"), 618948558, 58272857},
		{order - 1, samples.Bytes(1000), 198491529, 52985941},
	} {
		want := api.Signature{E: x.e, S: x.s}
		if s, e := Sign(x.k, x.message); s != want || e != api.OK {
			t.Errorf("Sign(%d, %x) = %v, %d, want %v", x.k, x.message, s, e, want)
		}
	}
}

// These messages were searched for: with the secret 12345, each has a least or greatest exponent, challenge or sum.
func TestSignAtTheEndsOfItsRanges(t *testing.T) {
	const k = 12345
	for _, x := range []struct {
		message string
		n, e, s int
	}{
		{"0000000047d34b1e", 1, 1007389199, 142261458},
		{"000000006f869c50", order - 1, 886868542, 520870345},
		{"0000000120f84957", 941913897, 0, 941913897},
		{"0000000009cf545b", 535317833, order - 1, 535305488},
		{"0000000034a97077", 673271413, 612008724, 0},
		{"000000000b0064c6", 557847738, 370132621, order - 1},
	} {
		m, want := samples.Unhex(x.message), api.Signature{E: x.e, S: x.s}
		if definedWith(k, x.n, m) != want {
			t.Fatalf("the exponent %d does not give %v", x.n, want)
		}
		if s, e := Sign(k, m); s != want || e != api.OK {
			t.Errorf("Sign(%d, %s) = %v, %d, want %v", k, x.message, s, e, want)
		}
		if !Verify(public(k), m, want) {
			t.Errorf("Verify of %v for %s is false", want, x.message)
		}
	}
}

func TestSign(t *testing.T) {
	for _, k := range secrets() {
		for _, m := range fewMessages() {
			if s, e := Sign(k, m); s != definedSign(k, m) || e != api.OK {
				t.Fatalf("Sign(%d, %x) = %v, %d, want %v", k, m, s, e, definedSign(k, m))
			}
		}
	}
	for _, m := range messages() {
		for _, k := range []int{1, 12345, order - 1} {
			if s, e := Sign(k, m); s != definedSign(k, m) || e != api.OK {
				t.Fatalf("Sign(%d, %x) = %v, %d, want %v", k, m, s, e, definedSign(k, m))
			}
		}
	}
}

func TestSignRefusesOtherNumbers(t *testing.T) {
	for _, k := range noSecrets() {
		for _, m := range messages()[:20] {
			if s, e := Sign(k, m); !none(s) || e != api.ErrRange {
				t.Errorf("Sign(%d, %x) = %v, %d, want ErrRange", k, m, s, e)
			}
		}
	}
}

// The same message has the same signature, whenever it is signed.
func TestSignDependsOnItsArgumentsOnly(t *testing.T) {
	s := signature(t, 12345, []byte("abc"))
	for _, m := range messages() {
		signature(t, 54321, m)
		if again := signature(t, 12345, []byte("abc")); again != s {
			t.Fatalf("a signature is %v and then %v", s, again)
		}
	}
}

// P9.2

func TestVerifyLiterals(t *testing.T) {
	for _, x := range []struct {
		public  int
		message []byte
		e, s    int
	}{
		{4, nil, 360280718, 592043240},
		{16, nil, 791828577, 536361629},
		{138672005, []byte("abc"), 703795959, 670174916},
		{436533508, samples.Bytes(60), 371917439, 800086417},
		{2147482475, []byte{0}, 946556756, 399186507},
		{536870895, samples.Bytes(1000), 198491529, 52985941},
	} {
		s := api.Signature{E: x.e, S: x.s}
		if !Verify(x.public, x.message, s) {
			t.Errorf("Verify(%d, %x, %v) is false", x.public, x.message, s)
		}
	}
}

// Verify does not ask how the exponent was chosen: it takes the signatures with all of them, also with 0.
func TestVerifyTakesAllExponents(t *testing.T) {
	for _, k := range secrets() {
		for _, n := range []int{0, 1, 2, 3, 1000, k, order - k, order - 1} {
			for _, m := range fewMessages() {
				if s := definedWith(k, n, m); !Verify(public(k), m, s) {
					t.Errorf("Verify(%d, %x, %v) is false for the exponent %d", public(k), m, s, n)
				}
			}
		}
	}
}

// The secret is chosen so that its product with the challenge is the negative exponent, and the sum 0.
func TestVerifyTakesTheSum0(t *testing.T) {
	for _, m := range messages() {
		const n = 1000
		c := definedChallenge(power(4, n), m)
		k := order - orderProduct(n, orderInverse(c))
		s := definedWith(k, n, m)
		if s.S != 0 {
			t.Fatalf("the signature %v of %x with %d does not have the sum 0", s, m, k)
		}
		if !Verify(public(k), m, s) {
			t.Errorf("Verify(%d, %x, %v) is false", public(k), m, s)
		}
		for _, sum := range []int{order, -order, 2 * order, 1 << 32, 1, order - 1} {
			s.S = sum
			if Verify(public(k), m, s) {
				t.Errorf("Verify(%d, %x, %v) is true", public(k), m, s)
			}
		}
	}
}

// This message was searched for: with the power 1000 of the generator, it has the challenge 0, so that the exponent of the public key is GroupOrder.
func TestVerifyTakesTheChallenge0(t *testing.T) {
	m, s := samples.Unhex("0000000017c6233c"), api.Signature{E: 0, S: 1000}
	if definedChallenge(power(4, 1000), m) != 0 {
		t.Fatal("the challenge is not 0")
	}
	for _, k := range secrets() {
		if !Verify(public(k), m, s) {
			t.Errorf("Verify(%d, %x, %v) is false", public(k), m, s)
		}
	}
	for _, n := range noElements() {
		if Verify(n, m, s) {
			t.Errorf("Verify(%d, %x, %v) is true", n, m, s)
		}
	}
	for _, c := range []int{order, -order, 2 * order, 1 << 32, -1 << 32, -1, 1} {
		if Verify(4, m, api.Signature{E: c, S: 1000}) {
			t.Errorf("Verify with the challenge %d is true", c)
		}
	}
	for _, sum := range []int{1000 + order, 1000 - order, 1000 + 1<<32, 999, 1001} {
		if Verify(4, m, api.Signature{E: 0, S: sum}) {
			t.Errorf("Verify with the sum %d is true", sum)
		}
	}
}

// The challenge of this message is GroupOrder - 1.
func TestVerifyTakesTheGreatestChallenge(t *testing.T) {
	const k = 12345
	m, s := samples.Unhex("0000000009cf545b"), api.Signature{E: order - 1, S: 535305488}
	if !Verify(public(k), m, s) {
		t.Errorf("Verify(%d, %x, %v) is false", public(k), m, s)
	}
	for _, c := range []int{-1, 2*order - 1, order, 0} {
		if Verify(public(k), m, api.Signature{E: c, S: s.S}) {
			t.Errorf("Verify with the challenge %d is true", c)
		}
	}
}

func TestVerifyRefusesAnotherMessage(t *testing.T) {
	for _, k := range []int{1, 12345, order - 1} {
		for _, m := range messages()[:100] {
			s := signature(t, k, m)
			others := [][]byte{append(bytes.Clone(m), 0), append([]byte{0}, m...), append(bytes.Clone(m), 0x80), append(bytes.Clone(m), m...)}
			for i := range m {
				others = append(others, m[:i], m[i+1:])
				other := bytes.Clone(m)
				other[i] ^= 1 << (i % 8)
				others = append(others, other)
			}
			for _, other := range others {
				if !bytes.Equal(other, m) && Verify(public(k), other, s) {
					t.Errorf("the signature of %x verifies %x", m, other)
				}
			}
		}
	}
}

func TestVerifyRefusesAnotherSignature(t *testing.T) {
	for _, k := range []int{1, 12345, order - 1} {
		for _, m := range fewMessages() {
			s := signature(t, k, m)
			wrong := []api.Signature{{}, {E: s.S, S: s.E}, {E: s.E}, {S: s.S}, {E: order - s.E, S: s.S}, {E: s.E, S: order - s.S}, {E: -s.E, S: -s.S}}
			for i := range 30 {
				wrong = append(wrong, api.Signature{E: s.E ^ 1<<i, S: s.S}, api.Signature{E: s.E, S: s.S ^ 1<<i})
			}
			for _, d := range []int{1, 2, -1, -2, order - 1} {
				wrong = append(wrong, api.Signature{E: s.E + d, S: s.S}, api.Signature{E: s.E, S: s.S + d}, api.Signature{E: s.E + d, S: s.S + d})
			}
			for _, w := range wrong {
				if Verify(public(k), m, w) {
					t.Errorf("Verify(%d, %x, %v) is true, where %v is right", public(k), m, w, s)
				}
			}
		}
	}
}

// These would be right modulo GroupOrder, or cut off to fewer bits.
func TestVerifyRefusesNumbersThatAreOff(t *testing.T) {
	for _, k := range []int{1, 12345, order - 1} {
		for _, m := range fewMessages() {
			s := signature(t, k, m)
			for _, d := range shifts() {
				for _, w := range []api.Signature{{E: s.E + d, S: s.S}, {E: s.E, S: s.S + d}, {E: s.E + d, S: s.S + d}} {
					if Verify(public(k), m, w) {
						t.Errorf("Verify(%d, %x, %v) is true, where %v is right", public(k), m, w, s)
					}
				}
			}
		}
	}
}

func TestVerifyRefusesNumbersOutOfRange(t *testing.T) {
	m := []byte("abc")
	s := signature(t, 12345, m)
	// If a power that is refused were taken as 0, the product would be 0.
	of0 := definedChallenge(0, m)
	for _, n := range notPermitted() {
		for _, w := range []api.Signature{{E: n, S: s.S}, {E: s.E, S: n}, {E: n, S: n}, {E: of0, S: n}, {E: n, S: 0}, {E: 0, S: n}} {
			if Verify(public(12345), m, w) {
				t.Errorf("Verify(.., %v) is true", w)
			}
		}
	}
}

func TestVerifyRefusesAnotherPublicKey(t *testing.T) {
	for _, k := range secrets() {
		for _, m := range fewMessages() {
			s := signature(t, k, m)
			for _, other := range []int{1, 2, 12345, order / 2, order - 2, order - 1, order - k} {
				if other != k && Verify(public(other), m, s) {
					t.Errorf("the signature of %x with the secret %d is verified with the public key of %d", m, k, other)
				}
			}
			right := public(k)
			for _, n := range []int{0, 1, prime - 1, prime, prime - right, right + prime, right - prime, -right, right + 1<<32, right - 1<<32} {
				if Verify(n, m, s) {
					t.Errorf("the signature of %x with the secret %d is verified with the public key %d", m, k, n)
				}
			}
		}
	}
}

// With these public keys the challenge would be right, but they are no elements.
func TestVerifyRefusesWhatIsNoElement(t *testing.T) {
	for n := range 200 {
		for _, m := range fewMessages() {
			of1 := definedChallenge(power(4, n), m)
			if Verify(1, m, api.Signature{E: of1, S: n}) {
				t.Errorf("Verify(1, %x, {%d %d}) is true", m, of1, n)
			}
			for _, k := range []int{0, 1, 12345, order - 1} {
				// The power of the negative residue is that of the positive one if its exponent is even, and the negative one otherwise.
				for _, r := range []int{power(4, n), prime - power(4, n)} {
					c := definedChallenge(r, m)
					s := api.Signature{E: c, S: (n + c*k) % order}
					negative := prime - public(k)
					if Verify(negative, m, s) {
						t.Errorf("Verify(%d, %x, %v) is true", negative, m, s)
					}
				}
			}
		}
	}
}

func TestVerifyRefusesOtherNumbersAsPublicKeys(t *testing.T) {
	for _, m := range fewMessages() {
		s := signature(t, 12345, m)
		// If a power that is refused were taken as 0, the product would be 0.
		for _, w := range []api.Signature{s, {E: definedChallenge(0, m), S: 1}, {E: definedChallenge(1, m), S: 0}, {}} {
			for _, n := range noElements() {
				if Verify(n, m, w) {
					t.Errorf("Verify(%d, %x, %v) is true", n, m, w)
				}
			}
		}
	}
}

func TestVerifyAsDefined(t *testing.T) {
	numbers := append(permitted()[:12], -1, order, 0, order-1, 1<<32)
	for _, m := range fewMessages() {
		for _, n := range append(noElements()[:8], 4, 16, 3, 5, prime-2, public(12345)) {
			for _, c := range numbers {
				for _, sum := range numbers {
					s := api.Signature{E: c, S: sum}
					if Verify(n, m, s) != definedVerify(n, m, s) {
						t.Fatalf("Verify(%d, %x, %v) is not %v", n, m, s, definedVerify(n, m, s))
					}
				}
			}
		}
	}
}

// P9.3

// eight returns the bytes of a signature.
func eight(s api.Signature) []byte {
	return binary.BigEndian.AppendUint32(binary.BigEndian.AppendUint32(nil, uint32(s.E)), uint32(s.S))
}

func TestEncode(t *testing.T) {
	for _, x := range []struct {
		s    api.Signature
		want string
	}{
		{api.Signature{}, "00000000 00000000"},
		{api.Signature{E: 1}, "00000001 00000000"},
		{api.Signature{S: 1}, "00000000 00000001"},
		{api.Signature{E: 0x01020304, S: 0x05060708}, "01020304 05060708"},
		{api.Signature{E: order - 1, S: 0}, "3fffffdc 00000000"},
		{api.Signature{E: 0, S: order - 1}, "00000000 3fffffdc"},
		{api.Signature{E: order - 1, S: order - 1}, "3fffffdc 3fffffdc"},
	} {
		if b, e := Encode(x.s); !bytes.Equal(b, samples.Unhex(x.want)) || e != api.OK {
			t.Errorf("Encode(%v) = %x, %d, want %s", x.s, b, e, x.want)
		}
		if s, e := Decode(samples.Unhex(x.want)); s != x.s || e != api.OK {
			t.Errorf("Decode(%s) = %v, %d, want %v", x.want, s, e, x.s)
		}
	}
}

func TestEncodeAndDecode(t *testing.T) {
	for _, c := range permitted() {
		for _, sum := range permitted() {
			s := api.Signature{E: c, S: sum}
			b, e := Encode(s)
			if !bytes.Equal(b, eight(s)) || e != api.OK {
				t.Fatalf("Encode(%v) = %x, %d, want %x", s, b, e, eight(s))
			}
			if again, e := Decode(samples.Roomy(b)); again != s || e != api.OK {
				t.Fatalf("Decode(%x) = %v, %d, want %v", b, again, e, s)
			}
		}
	}
}

func TestEncodeRefusesOtherNumbers(t *testing.T) {
	for _, n := range notPermitted() {
		for _, m := range append(permitted(), notPermitted()...) {
			for _, s := range []api.Signature{{E: n, S: m}, {E: m, S: n}} {
				if b, e := Encode(s); b != nil || e != api.ErrRange {
					t.Fatalf("Encode(%v) = %x, %d, want ErrRange", s, b, e)
				}
			}
		}
	}
}

func TestDecodeRefusesOtherNumbers(t *testing.T) {
	for _, n := range notPermitted() {
		if n < 0 || n >= 1<<32 {
			continue
		}
		for _, m := range []int{0, 1, 12345, order - 1, order, 1<<32 - 1, n} {
			for _, b := range [][]byte{eight(api.Signature{E: n, S: m}), eight(api.Signature{E: m, S: n})} {
				if s, e := Decode(b); !none(s) || e != api.ErrRange {
					t.Errorf("Decode(%x) = %v, %d, want ErrRange", b, s, e)
				}
			}
		}
	}
	for _, text := range []string{"3fffffdd 00000000", "00000000 3fffffdd", "40000000 00000000", "00000000 40000000", "80000000 00000001", "00000001 80000000", "ffffffff 00000000", "00000000 ffffffff"} {
		if s, e := Decode(samples.Unhex(text)); !none(s) || e != api.ErrRange {
			t.Errorf("Decode(%s) = %v, %d, want ErrRange", text, s, e)
		}
	}
}

// A wrong size is named before a wrong number.
func TestDecodeRefusesOtherSizes(t *testing.T) {
	for n := range 40 {
		if n == 8 {
			continue
		}
		for _, b := range [][]byte{make([]byte, n), samples.Bytes(n), bytes.Repeat([]byte{0xff}, n), samples.Roomy(make([]byte, n))} {
			if s, e := Decode(b); !none(s) || e != api.ErrSize {
				t.Errorf("Decode(%x) = %v, %d, want ErrSize", b, s, e)
			}
		}
	}
	right := eight(definedSign(12345, nil))
	for _, b := range [][]byte{right[:7], append(bytes.Clone(right), 0), append(bytes.Clone(right), right...), right[:4], make([]byte, api.MaxBytes)} {
		if s, e := Decode(b); !none(s) || e != api.ErrSize {
			t.Errorf("Decode of %d bytes = %v, %d, want ErrSize", len(b), s, e)
		}
	}
}
