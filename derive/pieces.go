package derive

import (
	"bytes"

	"traveldoc/digest"
	"traveldoc/octets"
)

// What stands behind a seed tells apart what its digest is for.
const (
	forNext  = 0
	forPiece = 1
)

// digested returns the digest of all parts, one behind the other.
func digested(parts ...[]byte) []byte {
	return digest.Sum(bytes.Join(parts, nil))
}

// counted returns a use or the number of a piece as four bytes.
func counted(n int) []byte {
	// Both are far below 2^32.
	b, _ := octets.Octets(n, 4)
	return b
}

// drawn returns the first n bytes of the pieces that a seed gives.
func drawn(seed []byte, n int) []byte {
	var out []byte
	for i := 0; len(out) < n; i++ {
		out = append(out, digested(seed, []byte{forPiece}, counted(i))...)
	}
	// The capacity ends with the bytes, so that those of the last piece that were not asked for cannot be reached.
	return out[:n:n]
}
