package aes

import "math/bits"

const (
	byteValues = 256
	// units is the number of bytes that have a product of 1 with another one: all but 0.
	units = byteValues - 1
	// reduction is what x^8 leaves modulo the polynomial of the field.
	reduction = 0x1b
	// substituteOfZero is combined into each substitute.
	substituteOfZero = 0x63
)

// table has one byte for each byte.
type table [byteValues]byte

// double returns the product of a byte and 2.
func double(x byte) byte {
	if x&0x80 != 0 {
		return x<<1 ^ reduction
	}
	return x << 1
}

// inverses returns the inverse of each byte.
func inverses() table {
	// The powers of 3 are all bytes but 0, and the 255th one is 1 again.
	var powers [units]byte
	power := byte(1)
	for n := range units {
		powers[n] = power
		power ^= double(power)
	}
	var out table
	for n := range units {
		out[powers[n]] = powers[(units-n)%units]
	}
	return out
}

// substitutes returns the substitute of each byte.
func substitutes() table {
	out := inverses()
	for x := range byteValues {
		b := out[x]
		// Rotating to the right by n puts bit i + n at the place of bit i.
		for n := 4; n <= 7; n++ {
			out[x] ^= bits.RotateLeft8(b, -n)
		}
		out[x] ^= substituteOfZero
	}
	return out
}

// reversed returns the table that leads from the substitutes back to their bytes.
func reversed(all *table) table {
	var out table
	for x := range byteValues {
		out[all[x]] = byte(x)
	}
	return out
}
