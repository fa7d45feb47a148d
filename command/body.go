package command

import (
	"traveldoc/api"
	"traveldoc/octets"
)

// headSize is the number of bytes ahead of the body: Class, Instruction, P1 and P2.
const headSize = 4

// The numbers of bytes of a length. An extended one stands in a body that begins with extendedMark.
const (
	shortSize    = 1
	extendedSize = 2
	extendedMark = 0
)

const (
	maxShortData     = 255
	maxShortExpected = 256
)

// encodeBody returns the bytes of a valid command behind its first four.
func encodeBody(c api.Command) []byte {
	var body []byte
	size := shortSize
	if len(c.Data) > maxShortData || c.Expected > maxShortExpected {
		size = extendedSize
		body = append(body, extendedMark)
	}
	if len(c.Data) > 0 {
		body = append(body, encodeLength(len(c.Data), size)...)
		body = append(body, c.Data...)
	}
	if c.Expected != noneExpected {
		body = append(body, encodeLength(c.Expected, size)...)
	}
	return body
}

// decodeBody returns Data and Expected of the bytes behind the first four, if there are as many bytes as they say. Data share memory with them.
func decodeBody(body []byte) (data []byte, expected int, ok bool) {
	if len(body) == 0 {
		return nil, noneExpected, true
	}
	size := shortSize
	// A byte that stands alone is Expected, also where it is the mark of extended lengths.
	if len(body) > 1 && body[0] == extendedMark {
		size, body = extendedSize, body[1:]
	}
	if len(body) == size {
		return nil, decodeExpected(body), true
	}
	return decodeData(body, size)
}

// decodeData returns Data and Expected of a length of so many bytes and what is behind it.
func decodeData(body []byte, size int) (data []byte, expected int, ok bool) {
	if len(body) < size {
		return nil, 0, false
	}
	rest := body[size:]
	// So few bytes always have a number.
	n, _ := octets.Number(body[:size])
	switch {
	case n == 0:
		return nil, 0, false
	case len(rest) == n:
		return rest, noneExpected, true
	case len(rest) == n+size:
		return rest[:n], decodeExpected(rest[n:]), true
	}
	return nil, 0, false
}

// encodeLength returns a length in so many bytes. The greatest Expected, for which they have no room, becomes 0.
func encodeLength(n, size int) []byte {
	// There is no error, because the remainder always has room.
	b, _ := octets.Octets(n%numbersOf(size), size)
	return b
}

// decodeExpected returns the Expected that bytes stand for.
func decodeExpected(b []byte) int {
	// So few bytes always have a number.
	n, _ := octets.Number(b)
	if n == 0 {
		return numbersOf(len(b))
	}
	return n
}

// numbersOf returns how many numbers can be written in so many bytes.
func numbersOf(size int) int { return 1 << (8 * size) }
