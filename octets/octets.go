// Package octets is layer 1: bytes, numbers and hexadecimal text. See shared/doc/01-octets.md.
package octets

import (
	"bytes"

	"traveldoc/api"
)

const digits = "0123456789abcdef"

// maxSize keeps numbers below 2^56, so that they are never negative as an int.
const maxSize = 7

// Hex returns the bytes as hexadecimal text.
func Hex(b []byte) string {
	text := make([]byte, 0, 2*len(b))
	for _, x := range b {
		text = append(text, digits[x>>4], digits[x&15])
	}
	return string(text)
}

// Unhex reads hexadecimal text.
func Unhex(s string) ([]byte, api.Errno) {
	if len(s)%2 != 0 {
		return nil, api.ErrForm
	}
	out := make([]byte, len(s)/2)
	for i := range out {
		high, highOK := digitValue(s[2*i])
		low, lowOK := digitValue(s[2*i+1])
		if !highOK || !lowOK {
			return nil, api.ErrForm
		}
		out[i] = high<<4 | low
	}
	return out, api.OK
}

func digitValue(c byte) (byte, bool) {
	switch {
	case '0' <= c && c <= '9':
		return c - '0', true
	case 'a' <= c && c <= 'f':
		return c - 'a' + 10, true
	case 'A' <= c && c <= 'F':
		return c - 'A' + 10, true
	}
	return 0, false
}

// Number returns the number that bytes stand for.
func Number(b []byte) (int, api.Errno) {
	if len(b) > maxSize {
		return 0, api.ErrSize
	}
	n := 0
	for i := range len(b) {
		n = n<<8 | int(b[i])
	}
	return n, api.OK
}

// Octets returns a number as so many bytes.
func Octets(n, size int) ([]byte, api.Errno) {
	if size < 0 || size > maxSize {
		return nil, api.ErrSize
	}
	if n < 0 || n>>(8*size) != 0 {
		return nil, api.ErrRange
	}
	out := make([]byte, size)
	for i := range size {
		out[size-1-i] = byte(n >> (8 * i))
	}
	return out, api.OK
}

// Xor combines two lists of bytes by exclusive or.
func Xor(a, b []byte) ([]byte, api.Errno) {
	if len(a) != len(b) {
		return nil, api.ErrSize
	}
	out := make([]byte, len(a))
	for i := range out {
		out[i] = a[i] ^ b[i]
	}
	return out, api.OK
}

// Same reports whether two lists of bytes are equal.
func Same(a, b []byte) bool {
	return bytes.Equal(a, b)
}

// Split divides bytes into pieces.
func Split(b []byte, size int) ([][]byte, api.Errno) {
	if size < 1 {
		return nil, api.ErrRange
	}
	var pieces [][]byte
	for rest := b; len(rest) > 0; {
		// The size may be far greater than the bytes: neither a sum with it nor memory for it is safe.
		n := min(size, len(rest))
		piece := make([]byte, n)
		copy(piece, rest)
		pieces = append(pieces, piece)
		rest = rest[n:]
	}
	return pieces, api.OK
}
