package modes

// padStart is the first byte of the padding.
const padStart = 0x80

// whole tells whether bytes are whole blocks.
func whole(b []byte) bool { return len(b)%blockSize == 0 }

// unpadded returns the number of bytes ahead of the padding, for at least one block.
func unpadded(b []byte) (int, bool) {
	// The padding never has more than a block: a byte further ahead does not belong to it.
	for i := range blockSize {
		n := len(b) - 1 - i
		if b[n] == padStart {
			return n, true
		}
		if b[n] != 0 {
			return 0, false
		}
	}
	return 0, false
}
