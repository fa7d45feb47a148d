package aes

const (
	// side is the number of rows and of columns of a square, and of bytes of a word.
	side      = 4
	blockSize = side * side
	rounds    = 10
	// undo is how many times more rows are rotated, or columns are mixed, to get them back: both are as before after four times.
	undo = 3
)

// square is a block, or the key of a round, column by column.
type square [blockSize]byte

// expand returns the keys of all rounds.
func expand(key square, all *table) [rounds + 1]square {
	keys := [rounds + 1]square{key}
	// Each round constant is the double of the one before.
	constant := byte(1)
	for round := range rounds {
		keys[round+1] = nextKey(keys[round], constant, all)
		constant = double(constant)
	}
	return keys
}

// nextKey returns the key of the round behind that of a key.
func nextKey(key square, constant byte, all *table) square {
	var word [side]byte
	for r := range side {
		word[r] = all[key[blockSize-side+(r+1)%side]]
	}
	word[0] ^= constant
	for i := range blockSize {
		// Each new word is at once what is combined into the next one.
		word[i%side] ^= key[i]
		key[i] = word[i%side]
	}
	return key
}

func encrypt(key, block square) square {
	all := substitutes()
	keys := expand(key, &all)
	block = combined(block, keys[0])
	for round := 1; round < rounds; round++ {
		block = mixed(rotated(substituted(block, &all), 1))
		block = combined(block, keys[round])
	}
	return combined(rotated(substituted(block, &all), 1), keys[rounds])
}

// decrypt takes the steps of encrypt back, from the last one to the first one.
func decrypt(key, block square) square {
	all := substitutes()
	back := reversed(&all)
	keys := expand(key, &all)
	block = substituted(rotated(combined(block, keys[rounds]), undo), &back)
	for round := rounds - 1; round > 0; round-- {
		block = combined(block, keys[round])
		for range undo {
			block = mixed(block)
		}
		block = substituted(rotated(block, undo), &back)
	}
	return combined(block, keys[0])
}

// combined returns the exclusive or of a block and a key.
func combined(block, key square) square {
	for i := range blockSize {
		block[i] ^= key[i]
	}
	return block
}

// substituted returns a block whose bytes are replaced by those of a table.
func substituted(block square, by *table) square {
	for i := range blockSize {
		block[i] = by[block[i]]
	}
	return block
}

// rotated returns a block whose row r is rotated to the left by r bytes, so many times.
func rotated(block square, times int) square {
	var out square
	for c := range side {
		for r := range side {
			out[side*c+r] = block[side*((c+r*times)%side)+r]
		}
	}
	return out
}

// mixed returns a block whose columns are mixed.
func mixed(block square) square {
	var out square
	for c := range side {
		column := block[side*c:][:side]
		sum := column[0] ^ column[1] ^ column[2] ^ column[3]
		for r := range side {
			// With the sum x + y + z + w of the column, 2x + 3y + z + w is that sum, once more x, and twice x + y.
			x, y := column[r], column[(r+1)%side]
			out[side*c+r] = sum ^ x ^ double(x^y)
		}
	}
	return out
}
