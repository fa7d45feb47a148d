package aes

import (
	"bytes"
	"encoding/hex"
	"math/rand"
	"strings"
	"testing"

	"traveldoc/api"
	"traveldoc/samples"
)

// P5.3

func TestPublishedBlocks(t *testing.T) {
	zero, full := strings.Repeat("00", 16), strings.Repeat("ff", 16)
	for _, x := range []struct{ key, block, want string }{
		{"000102030405060708090a0b0c0d0e0f", "00112233445566778899aabbccddeeff", "69c4e0d86a7b0430d8cdb78070b4c55a"},
		{"2b7e151628aed2a6abf7158809cf4f3c", "3243f6a8885a308d313198a2e0370734", "3925841d02dc09fbdc118597196a0b32"},
		{"2b7e151628aed2a6abf7158809cf4f3c", "6bc1bee22e409f96e93d7e117393172a", "3ad77bb40d7a3660a89ecaf32466ef97"},
		{"2b7e151628aed2a6abf7158809cf4f3c", "ae2d8a571e03ac9c9eb76fac45af8e51", "f5d3d58503b9699de785895a96fdbaaf"},
		{"2b7e151628aed2a6abf7158809cf4f3c", "30c81c46a35ce411e5fbc1191a0a52ef", "43b1cd7f598ece23881b00e3ed030688"},
		{"2b7e151628aed2a6abf7158809cf4f3c", "f69f2445df4f9b17ad2b417be66c3710", "7b0c785e27e8ad3f8223207104725dd4"},
		{zero, zero, "66e94bd4ef8a2c3b884cfa59ca342b2e"},
		{zero, "80" + zero[2:], "3ad78e726c1ec02b7ebfe92b23d9ec34"},
		{zero, full, "3f5b8cc9ea855a0afa7347d23e8d664e"},
		{zero, "f34481ec3cc627bacd5dc3fb08f273e6", "0336763e966d92595a567cc9ce537f5e"},
		{"80" + zero[2:], zero, "0edd33d3c621e546455bd8ba1418bec8"},
	} {
		key, block, want := samples.Unhex(x.key), samples.Unhex(x.block), samples.Unhex(x.want)
		if got, e := Encrypt(key, block); !bytes.Equal(got, want) || e != api.OK {
			t.Errorf("Encrypt(%s, %s) = %x, %d, want %s", x.key, x.block, got, e, x.want)
		}
		if got, e := Decrypt(key, want); !bytes.Equal(got, block) || e != api.OK {
			t.Errorf("Decrypt(%s, %s) = %x, %d, want %s", x.key, x.want, got, e, x.block)
		}
	}
}

// stepByStep is the document's definition of Encrypt, with a square of rows and columns and with products of the field.
func stepByStep(t *testing.T, key, block []byte) []byte {
	t.Helper()
	keys, substitutes := expanded(t, key), samples.Unhex(published)
	var square [4][4]int
	each := func(f func(r, c, x int) int) {
		before := square
		for r := range 4 {
			for c := range 4 {
				square[r][c] = f(r, c, before[r][c])
			}
		}
	}
	each(func(r, c, _ int) int { return int(block[4*c+r] ^ keys[4*c+r]) })
	for round := 1; round <= 10; round++ {
		each(func(_, _, x int) int { return int(substitutes[x]) })
		before := square
		each(func(r, c, _ int) int { return before[r][(c+r)%4] })
		if round < 10 {
			factors := [4][4]int{{2, 3, 1, 1}, {1, 2, 3, 1}, {1, 1, 2, 3}, {3, 1, 1, 2}}
			before := square
			each(func(r, c, _ int) int {
				sum := 0
				for i := range 4 {
					sum ^= product(factors[r][i], before[i][c])
				}
				return sum
			})
		}
		each(func(r, c, x int) int { return x ^ int(keys[16*round+4*c+r]) })
	}
	out := make([]byte, 16)
	each(func(r, c, x int) int {
		out[4*c+r] = byte(x)
		return x
	})
	return out
}

func TestEncryptStepByStep(t *testing.T) {
	r := rand.New(rand.NewSource(5))
	key, block := samples.Bytes(16), samples.Bytes(32)[16:]
	for range 300 {
		if got, e := Encrypt(key, block); !bytes.Equal(got, stepByStep(t, key, block)) || e != api.OK {
			t.Fatalf("Encrypt(%x, %x) = %x, %d, want %x", key, block, got, e, stepByStep(t, key, block))
		}
		r.Read(key)
		r.Read(block)
	}
}

func TestBlocksOfEqualBytes(t *testing.T) {
	for x := range 256 {
		equal := bytes.Repeat([]byte{byte(x)}, 16)
		checkBlock(t, samples.Bytes(16), equal)
		checkBlock(t, equal, samples.Bytes(16))
		checkBlock(t, equal, equal)
	}
}

func TestBlocksDependOnEachBit(t *testing.T) {
	for bit := range 128 {
		single := make([]byte, 16)
		single[bit/8] = 0x80 >> (bit % 8)
		checkBlock(t, single, make([]byte, 16))
		checkBlock(t, make([]byte, 16), single)
		changed := samples.Bytes(16)
		changed[bit/8] ^= 0x80 >> (bit % 8)
		checkBlock(t, changed, samples.Bytes(16))
		checkBlock(t, samples.Bytes(16), changed)
	}
}

func TestManyBlocks(t *testing.T) {
	r := rand.New(rand.NewSource(6))
	for range 3000 {
		key, block := make([]byte, 16), make([]byte, 16)
		r.Read(key)
		r.Read(block)
		checkBlock(t, key, block)
	}
}

// TestChains encrypts and decrypts each result with the result before it as the key.
func TestChains(t *testing.T) {
	key, block := samples.Bytes(16), samples.Bytes(32)[16:]
	for range 2000 {
		checkBlock(t, key, block)
		next, _ := Encrypt(key, block)
		key, block = block, next
	}
	for range 2000 {
		checkBlock(t, key, block)
		next, _ := Decrypt(key, block)
		key, block = block, next
	}
}

func TestBlocksRefuseOtherSizes(t *testing.T) {
	sizes := []int{0, 1, 4, 8, 14, 15, 16, 17, 18, 24, 31, 32, 33, 64, 176, 256, 272, 4096, 1<<16 + 16}
	for _, keySize := range sizes {
		for _, size := range sizes {
			want, length := api.ErrSize, 0
			if keySize == 16 && size == 16 {
				want, length = api.OK, 16
			}
			if got, e := Encrypt(samples.Bytes(keySize), samples.Bytes(size)); e != want || len(got) != length {
				t.Errorf("Encrypt of %d and %d bytes returns %x, %d, want %d", keySize, size, got, e, want)
			}
			if got, e := Decrypt(samples.Bytes(keySize), samples.Bytes(size)); e != want || len(got) != length {
				t.Errorf("Decrypt of %d and %d bytes returns %x, %d, want %d", keySize, size, got, e, want)
			}
		}
	}
}

func TestBlocksRefuseNil(t *testing.T) {
	for _, x := range [][2][]byte{{nil, nil}, {samples.Bytes(16), nil}, {nil, samples.Bytes(16)}} {
		if got, e := Encrypt(x[0], x[1]); e != api.ErrSize || len(got) != 0 {
			t.Errorf("Encrypt(%x, %x) = %x, %d", x[0], x[1], got, e)
		}
		if got, e := Decrypt(x[0], x[1]); e != api.ErrSize || len(got) != 0 {
			t.Errorf("Decrypt(%x, %x) = %x, %d", x[0], x[1], got, e)
		}
	}
}

func TestBlocksLookAtLengthsAndNotAtCapacities(t *testing.T) {
	whole := samples.Bytes(64)
	for _, x := range [][2]int{{0, 16}, {16, 0}, {15, 16}, {16, 15}, {17, 16}, {16, 17}, {15, 17}} {
		if got, e := Encrypt(whole[:x[0]], whole[:x[1]]); e != api.ErrSize || len(got) != 0 {
			t.Errorf("Encrypt of %d and %d bytes returns %x, %d", x[0], x[1], got, e)
		}
		if got, e := Decrypt(whole[:x[0]], whole[:x[1]]); e != api.ErrSize || len(got) != 0 {
			t.Errorf("Decrypt of %d and %d bytes returns %x, %d", x[0], x[1], got, e)
		}
	}
	checkBlock(t, whole[:16], whole[16:32])
	checkBlock(t, whole[5:21], whole[7:23])
}

// Consequences

// TestEncryptIsOneToOne goes through all values of one byte of a block, at each place.
func TestEncryptIsOneToOne(t *testing.T) {
	for place := range 16 {
		seen := map[string]bool{}
		for x := range 256 {
			block := samples.Bytes(16)
			block[place] = byte(x)
			to, _ := Encrypt(samples.Bytes(16), block)
			seen[hex.EncodeToString(to)] = true
			if back, e := Decrypt(samples.Bytes(16), to); !bytes.Equal(back, block) || e != api.OK {
				t.Fatalf("Decrypt of Encrypt of %x is %x, %d", block, back, e)
			}
			from, _ := Decrypt(samples.Bytes(16), block)
			if back, e := Encrypt(samples.Bytes(16), from); !bytes.Equal(back, block) || e != api.OK {
				t.Fatalf("Encrypt of Decrypt of %x is %x, %d", block, back, e)
			}
		}
		if len(seen) != 256 {
			t.Errorf("256 blocks with another byte %d are encrypted as %d", place, len(seen))
		}
	}
}
