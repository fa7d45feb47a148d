package digest

import (
	"bytes"
	"crypto/sha256"
	"encoding"
	"encoding/binary"
	"math/rand"
	"slices"
	"testing"

	"traveldoc/api"
	"traveldoc/samples"
)

// Help for the tests of Compress.

// The standard library writes the state of a digest as four bytes that name it, the words, the beginning of a block, and the number of bytes so far.
const (
	stateName   = "sha\x03"
	stateLength = len(stateName) + 32 + 64 + 8
)

// initial returns the first state, written out once more so that the tests do not read the table.
func initial() []uint32 {
	return []uint32{0x6a09e667, 0xbb67ae85, 0x3c6ef372, 0xa54ff53a, 0x510e527f, 0x9b05688c, 0x1f83d9ab, 0x5be0cd19}
}

// stateBehind returns the state that the standard library reaches from a state with whole blocks.
func stateBehind(t *testing.T, state []uint32, blocks []byte) []uint32 {
	t.Helper()
	text := append([]byte(stateName), bytesOf(state)...)
	text = append(text, make([]byte, stateLength-len(text))...)
	h := sha256.New()
	if err := h.(encoding.BinaryUnmarshaler).UnmarshalBinary(text); err != nil {
		t.Fatal(err)
	}
	h.Write(blocks)
	text, err := h.(encoding.BinaryMarshaler).MarshalBinary()
	if err != nil || len(text) != stateLength {
		t.Fatal(len(text), err)
	}
	return wordsOf(text[len(stateName):][:32])
}

func bytesOf(state []uint32) []byte {
	var out []byte
	for _, x := range state {
		out = binary.BigEndian.AppendUint32(out, x)
	}
	return out
}

func wordsOf(b []byte) []uint32 {
	var out []uint32
	for ; len(b) > 0; b = b[4:] {
		out = append(out, binary.BigEndian.Uint32(b))
	}
	return out
}

// checkCompress compares the state after a block with that of the standard library.
func checkCompress(t *testing.T, state []uint32, block []byte) {
	t.Helper()
	want := stateBehind(t, state, block)
	if got, e := Compress(state, block); !slices.Equal(got, want) || e != api.OK {
		t.Fatalf("Compress(%x, %x) = %x, %d, want %x", state, block, got, e, want)
	}
}

// P4.2

func TestCompressOfPublishedStates(t *testing.T) {
	block := append([]byte("abc\x80"), make([]byte, 60)...)
	block[63] = 24
	want := []uint32{0xba7816bf, 0x8f01cfea, 0x414140de, 0x5dae2223, 0xb00361a3, 0x96177a9c, 0xb410ff61, 0xf20015ad}
	if got, e := Compress(initial(), block); !slices.Equal(got, want) || e != api.OK {
		t.Errorf("Compress of abc is %x, %d", got, e)
	}
	text := "abcdbcdecdefdefgefghfghighijhijkijkljklmklmnlmnomnopnopq"
	first := append([]byte(text), 0x80, 0, 0, 0, 0, 0, 0, 0)
	want = []uint32{0x85e655d6, 0x417a1795, 0x3363376a, 0x624cde5c, 0x76e09589, 0xcac5f811, 0xcc4b32c1, 0xf20e533a}
	got, e := Compress(initial(), first)
	if !slices.Equal(got, want) || e != api.OK {
		t.Errorf("Compress of the first of two blocks is %x, %d", got, e)
	}
	second := append(make([]byte, 62), 0x01, 0xc0)
	want = []uint32{0x248d6a61, 0xd20638b8, 0xe5c02693, 0x0c3e6039, 0xa33ce459, 0x64ff2167, 0xf6ecedd4, 0x19db06c1}
	if got, e := Compress(got, second); !slices.Equal(got, want) || e != api.OK {
		t.Errorf("Compress of the second of two blocks is %x, %d", got, e)
	}
}

func TestCompressOfOtherStates(t *testing.T) {
	full := slices.Repeat([]uint32{0xffffffff}, 8)
	for _, state := range [][]uint32{initial(), make([]uint32, 8), full, {1, 2, 3, 4, 5, 6, 7, 8}} {
		for _, block := range [][]byte{make([]byte, 64), bytes.Repeat([]byte{0xff}, 64), samples.Bytes(64), bytes.Repeat([]byte{0x80}, 64)} {
			checkCompress(t, state, block)
		}
	}
	r := rand.New(rand.NewSource(4))
	for range 2000 {
		state, block := make([]uint32, 8), make([]byte, 64)
		for i := range state {
			state[i] = r.Uint32()
		}
		r.Read(block)
		checkCompress(t, state, block)
	}
}

func TestCompressDependsOnEachBit(t *testing.T) {
	for bit := range 8 * 32 {
		state := make([]uint32, 8)
		state[bit/32] = 1 << (bit % 32)
		checkCompress(t, state, make([]byte, 64))
	}
	for bit := range 64 * 8 {
		block := make([]byte, 64)
		block[bit/8] = 1 << (bit % 8)
		checkCompress(t, make([]uint32, 8), block)
	}
}

func TestCompressRefusesOtherSizes(t *testing.T) {
	for _, words := range []int{0, 1, 7, 8, 9, 16, 64, 72} {
		for _, size := range []int{0, 1, 8, 32, 63, 64, 65, 128, 4096} {
			if words == 8 && size == 64 {
				continue
			}
			if state, e := Compress(make([]uint32, words), make([]byte, size)); len(state) != 0 || e != api.ErrSize {
				t.Errorf("Compress of %d words and %d bytes returns %x, %d, want ErrSize", words, size, state, e)
			}
		}
	}
	if state, e := Compress(nil, nil); len(state) != 0 || e != api.ErrSize {
		t.Errorf("Compress(nil, nil) returns %x, %d", state, e)
	}
	if state, e := Compress(initial(), samples.Bytes(64)); len(state) != 8 || e != api.OK {
		t.Errorf("Compress of 8 words and 64 bytes returns %x, %d", state, e)
	}
}

func TestCompressLooksAtLengthsAndNotAtCapacities(t *testing.T) {
	states, blocks := make([]uint32, 16), make([]byte, 128)
	for _, x := range []struct{ words, size int }{{7, 64}, {8, 63}, {8, 65}, {9, 64}} {
		if _, e := Compress(states[:x.words], blocks[:x.size]); e != api.ErrSize {
			t.Errorf("Compress of %d words and %d bytes returns %d, want ErrSize", x.words, x.size, e)
		}
	}
	checkCompress(t, states[:8], blocks[:64])
}

// R2

func TestCompressLeavesItsArgumentsAlone(t *testing.T) {
	states := append(initial(), 1, 2, 3, 4, 5, 6, 7, 8)
	blocks := samples.Bytes(128)
	got, e := Compress(states[:8], blocks[:64])
	if e != api.OK {
		t.Fatal(e)
	}
	want := slices.Clone(got)
	check := func(when string) {
		if !slices.Equal(states, append(initial(), 1, 2, 3, 4, 5, 6, 7, 8)) || !bytes.Equal(blocks, samples.Bytes(128)) {
			t.Errorf("an argument of Compress was modified %s", when)
		}
	}
	check("by the call")
	got = got[:cap(got)]
	for i := range got {
		got[i] ^= 0xffffffff
	}
	check("with the result")
	again, _ := Compress(states[:8], blocks[:64])
	if !slices.Equal(again, want) {
		t.Errorf("a second call returns %x, want %x", again, want)
	}
	clear(states)
	clear(blocks)
	if !slices.Equal(again, want) {
		t.Error("the result of Compress changes with an argument")
	}
	if !bytes.Equal(Sum(nil), sum(nil)) {
		t.Error("the tables were modified")
	}
}
