package modes

import "traveldoc/aes"

// carry is what the bit that doubling shifts out stands for.
const carry = 0x87

// double doubles a block.
func double(block []byte) []byte {
	out := make([]byte, blockSize)
	shifted := byte(0)
	for i := blockSize - 1; i >= 0; i-- {
		out[i] = block[i]<<1 | shifted
		shifted = block[i] >> 7
	}
	if shifted == 1 {
		out[blockSize-1] ^= carry
	}
	return out
}

// code returns the check code of bytes under a key of the right size.
func code(key, b []byte) []byte {
	zero := make([]byte, blockSize)
	first, _ := aes.Encrypt(key, zero)
	last := zero
	for block := range encrypted(key, zero, masked(b, double(first))) {
		last = block
	}
	return last
}

// masked returns the bytes whose last encrypted block is the check code: b in whole blocks, the last one of them combined with k1, or with the doubled k1 if the blocks were not whole.
func masked(b, k1 []byte) []byte {
	out := make([]byte, len(b))
	copy(out, b)
	mask := k1
	if len(b) == 0 || !whole(b) {
		out = Pad(b)
		mask = double(k1)
	}
	end := out[len(out)-blockSize:]
	copy(end, combine(end, mask))
	return out
}
