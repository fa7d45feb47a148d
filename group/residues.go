package group

import (
	"math/bits"

	"traveldoc/api"
)

func isResidue(x int) bool { return 1 <= x && x < api.GroupPrime }

func isSecret(k int) bool { return 1 <= k && k < api.GroupOrder }

// product returns the product of two residues.
func product(a, b int) int {
	// Residues are below 2^31, so that nothing is lost ahead of the division.
	return a * b % api.GroupPrime
}

// power returns the power of a residue with an exponent that is not negative.
func power(x, k int) int {
	result := 1
	for i := range bits.Len(uint(k)) {
		if k>>i&1 == 1 {
			result = product(result, x)
		}
		x = product(x, x)
	}
	return result
}
