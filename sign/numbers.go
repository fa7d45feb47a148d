package sign

import (
	"slices"

	"traveldoc/api"
	"traveldoc/digest"
	"traveldoc/group"
	"traveldoc/octets"
)

const (
	// numberSize is the number of bytes of a secret, of a residue and of each number of a signature.
	numberSize = 4
	// digestSize is how many bytes of a digest make a number.
	digestSize = 7
)

// numbers are E and S of a signature, in the order in which they are encoded.
type numbers [2]int

// encodedSize is the number of bytes of a signature.
const encodedSize = len(numbers{}) * numberSize

func numbersOf(s api.Signature) numbers { return numbers{s.E, s.S} }

// inRange reports whether both numbers may be those of a signature.
func inRange(both numbers) bool {
	for _, n := range both {
		if n < 0 || n >= api.GroupOrder {
			return false
		}
	}
	return true
}

// four returns a number below 2^32 as four bytes.
func four(n int) []byte {
	b, _ := octets.Octets(n, numberSize)
	return b
}

// digestNumber returns the number that the digest of a number below 2^32 and a message begins with.
func digestNumber(n int, message []byte) int {
	sum := digest.Sum(slices.Concat(four(n), message))
	// The call does not fail: octets.Number permits this size.
	out, _ := octets.Number(sum[:digestSize])
	return out
}

// challenge returns the challenge of a residue and a message.
func challenge(r int, message []byte) int {
	return digestNumber(r, message) % api.GroupOrder
}

// signedPower returns the power that the signer has started with, if the signature is right. The public key is an element, and the numbers of the signature are in range.
func signedPower(public int, s api.Signature) int {
	// No call fails: all factors are residues, and both exponents are from 0 to GroupOrder.
	up, _ := group.Power(api.GroupGenerator, s.S)
	down, _ := group.Power(public, api.GroupOrder-s.E)
	r, _ := group.Multiply(up, down)
	return r
}
