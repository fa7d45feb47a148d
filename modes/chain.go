package modes

import (
	"iter"
	"slices"

	"traveldoc/aes"
	"traveldoc/api"
)

// valid returns the error of the arguments of Seal and Open.
func valid(key, iv, b []byte) api.Errno {
	if len(key) != blockSize || len(iv) != blockSize {
		return api.ErrInvalid
	}
	if !whole(b) {
		return api.ErrSize
	}
	return api.OK
}

// combine combines two blocks by exclusive or.
func combine(a, b []byte) []byte {
	out := make([]byte, blockSize)
	for i := range out {
		out[i] = a[i] ^ b[i]
	}
	return out
}

// encrypted yields the encrypted blocks of b, one after the other: a check code needs only the last of them.
func encrypted(key, iv, b []byte) iter.Seq[[]byte] {
	return func(yield func([]byte) bool) {
		before := iv
		for block := range slices.Chunk(b, blockSize) {
			// The sizes are right: valid or Code has seen to that.
			next, _ := aes.Encrypt(key, combine(block, before))
			if !yield(next) {
				return
			}
			before = next
		}
	}
}

// seal encrypts whole blocks.
func seal(key, iv, b []byte) []byte {
	out := make([]byte, 0, len(b))
	for block := range encrypted(key, iv, b) {
		out = append(out, block...)
	}
	return out
}

// open decrypts whole blocks.
func open(key, iv, b []byte) []byte {
	out := make([]byte, 0, len(b))
	before := iv
	for block := range slices.Chunk(b, blockSize) {
		next, _ := aes.Decrypt(key, block)
		out = append(out, combine(next, before)...)
		before = block
	}
	return out
}
