// Package samples contains bytes and objects that the tests of several packages use. The layers do not call it.
package samples

import (
	"strconv"
	"strings"
)

// Bytes returns n bytes that differ from their neighbours and from zero at most places.
func Bytes(n int) []byte {
	b := make([]byte, n)
	for i := range b {
		b[i] = byte(i*37 + 11)
	}
	return b
}

// Scribble overwrites bytes up to their capacity, so that memory that is shared shows itself.
func Scribble(b []byte) {
	b = b[:cap(b)]
	for i := range b {
		b[i] ^= 0xff
	}
}

// Roomy returns a copy with room behind it that is not empty.
func Roomy(b []byte) []byte {
	room := make([]byte, len(b)+40)
	for i := range room {
		room[i] = 0xa5
	}
	return room[:copy(room, b)]
}

// Unhex returns the bytes of hexadecimal text, in which blanks have no meaning. It is no layer's function, so that the tests of octets do not compare the package with itself. It panics if a test has mistyped its text.
func Unhex(text string) []byte {
	digits := strings.ReplaceAll(text, " ", "")
	b := make([]byte, len(digits)/2)
	for i := range b {
		x, err := strconv.ParseUint(digits[2*i:2*i+2], 16, 8)
		if err != nil {
			panic(err)
		}
		b[i] = byte(x)
	}
	return b
}
