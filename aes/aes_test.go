package aes

import (
	"bytes"
	stdaes "crypto/aes"
	"crypto/cipher"
	"encoding/hex"
	"math"
	"math/rand"
	"testing"

	"traveldoc/api"
	"traveldoc/samples"
)

// Help for the tests of this package. The cipher of the standard library is what the package is compared with.

// library returns the cipher of the standard library.
func library(t *testing.T, key []byte) cipher.Block {
	t.Helper()
	c, err := stdaes.NewCipher(key)
	if err != nil {
		t.Fatal(err)
	}
	return c
}

// checkBlock compares Encrypt and Decrypt with the standard library, and leads the block there and back, in both orders.
func checkBlock(t *testing.T, key, block []byte) {
	t.Helper()
	c, want := library(t, key), make([]byte, 16)
	to, e := Encrypt(key, block)
	if c.Encrypt(want, block); !bytes.Equal(to, want) || e != api.OK {
		t.Fatalf("Encrypt(%x, %x) = %x, %d, want %x", key, block, to, e, want)
	}
	from, e := Decrypt(key, block)
	if c.Decrypt(want, block); !bytes.Equal(from, want) || e != api.OK {
		t.Fatalf("Decrypt(%x, %x) = %x, %d, want %x", key, block, from, e, want)
	}
	if back, e := Decrypt(key, to); !bytes.Equal(back, block) || e != api.OK {
		t.Fatalf("Decrypt of Encrypt of %x with %x is %x, %d", block, key, back, e)
	}
	if back, e := Encrypt(key, from); !bytes.Equal(back, block) || e != api.OK {
		t.Fatalf("Encrypt of Decrypt of %x with %x is %x, %d", block, key, back, e)
	}
}

// product multiplies two bytes as polynomials, and takes the polynomial of the field away from the highest coefficient on.
func product(a, b int) int {
	out := 0
	for i := range 8 {
		if b>>i&1 == 1 {
			out ^= a << i
		}
	}
	for i := 14; i >= 8; i-- {
		if out>>i&1 == 1 {
			out ^= 0x11b << (i - 8)
		}
	}
	return out
}

// inverse looks for the byte whose product with x is 1.
func inverse(t *testing.T, x int) int {
	t.Helper()
	if x == 0 {
		return 0
	}
	for y := range 256 {
		if product(x, y) == 1 {
			return y
		}
	}
	t.Fatalf("%#x has no inverse", x)
	return 0
}

// substitute is the document's definition, bit by bit.
func substitute(t *testing.T, x int) int {
	t.Helper()
	b := inverse(t, x)
	bit := func(i int) int { return b >> (i % 8) & 1 }
	out := 0
	for i := range 8 {
		out |= (bit(i) ^ bit(i+4) ^ bit(i+5) ^ bit(i+6) ^ bit(i+7) ^ 0x63>>i&1) << i
	}
	return out
}

// published are the substitutes of the bytes 0 to 255, as the standard that defines the cipher prints them.
const published = "637c777bf26b6fc53001672bfed7ab76" + "ca82c97dfa5947f0add4a2af9ca472c0" +
	"b7fd9326363ff7cc34a5e5f171d83115" + "04c723c31896059a071280e2eb27b275" +
	"09832c1a1b6e5aa0523bd6b329e32f84" + "53d100ed20fcb15b6acbbe394a4c58cf" +
	"d0efaafb434d338545f9027f503c9fa8" + "51a3408f929d38f5bcb6da2110fff3d2" +
	"cd0c13ec5f974417c4a77e3d645d1973" + "60814fdc222a908846eeb814de5e0bdb" +
	"e0323a0a4906245cc2d3ac629195e479" + "e7c8376d8dd54ea96c56f4ea657aae08" +
	"ba78252e1ca6b4c6e8dd741f4bbd8b8a" + "703eb5664803f60e613557b986c11d9e" +
	"e1f8981169d98e949b1e87e9ce5528df" + "8ca1890dbfe6426841992d0fb054bb16"

// P5.1

func TestSubstitute(t *testing.T) {
	want := samples.Unhex(published)
	if len(want) != 256 {
		t.Fatal(len(want))
	}
	for x := range 256 {
		if got := Substitute(x); got != int(want[x]) || got != substitute(t, x) {
			t.Errorf("Substitute(%#x) = %#x, want %#x, by the definition %#x", x, got, want[x], substitute(t, x))
		}
	}
}

func TestSubstituteIsOneToOne(t *testing.T) {
	from := map[int]int{}
	for x := range 256 {
		got := Substitute(x)
		if got < 0 || got > 255 {
			t.Errorf("Substitute(%#x) = %d", x, got)
		}
		if other, found := from[got]; found {
			t.Errorf("Substitute returns %#x for %#x and for %#x", got, other, x)
		}
		from[got] = x
	}
}

func TestSubstituteOfOtherNumbersIsZero(t *testing.T) {
	numbers := []int{math.MinInt, math.MinInt + 1, math.MinInt32, -1 << 40, -256, -255, -1,
		256, 257, 511, 512, 0x153, 1 << 16, 1 << 32, 1<<32 + 0x53, math.MaxInt32, math.MaxInt - 1, math.MaxInt}
	for n := range 2000 {
		numbers = append(numbers, -1-n, 256+n)
	}
	for _, x := range numbers {
		if got := Substitute(x); got != 0 {
			t.Errorf("Substitute(%d) = %d, want 0", x, got)
		}
	}
}

// Examples

func TestExamples(t *testing.T) {
	if got := Substitute(0); got != 0x63 {
		t.Error(got)
	}
	if got := Substitute(0x53); got != 0xed {
		t.Error(got)
	}
	key, block := samples.Unhex("000102030405060708090a0b0c0d0e0f"), samples.Unhex("00112233445566778899aabbccddeeff")
	if got, e := Encrypt(key, block); hex.EncodeToString(got) != "69c4e0d86a7b0430d8cdb78070b4c55a" || e != api.OK {
		t.Errorf("%x, %d", got, e)
	}
	keys, e := Expand(samples.Unhex("2b7e151628aed2a6abf7158809cf4f3c"))
	if len(keys) != 11 || hex.EncodeToString(keys[10]) != "d014f9a8c9ee2589e13f0cc8b6630ca6" || e != api.OK {
		t.Errorf("%x, %d", keys, e)
	}
}

// R2: arguments are not modified, and results share no memory with them or with each other.

// calls returns the calls for a key and a block, each with all slices of its result.
func calls() map[string]func(key, block []byte) [][]byte {
	one := func(f func(key, block []byte) ([]byte, api.Errno)) func(key, block []byte) [][]byte {
		return func(key, block []byte) [][]byte {
			out, _ := f(key, block)
			return [][]byte{out}
		}
	}
	return map[string]func(key, block []byte) [][]byte{
		"Expand": func(key, _ []byte) [][]byte {
			out, _ := Expand(key)
			return out
		},
		"Encrypt": one(Encrypt),
		"Decrypt": one(Decrypt),
	}
}

// copied returns new slices with the same bytes.
func copied(pieces [][]byte) [][]byte {
	var out [][]byte
	for _, piece := range pieces {
		out = append(out, bytes.Clone(piece))
	}
	return out
}

func same(a, b [][]byte) bool {
	return bytes.Equal(bytes.Join(a, nil), bytes.Join(b, nil)) && len(a) == len(b)
}

func TestArgumentsAreNotModified(t *testing.T) {
	for name, call := range calls() {
		// The bytes behind the arguments belong to somebody else, though their capacity covers them.
		keys, blocks := samples.Bytes(200), samples.Bytes(300)[100:]
		wantKeys, wantBlocks := bytes.Clone(keys), bytes.Clone(blocks)
		for _, sizes := range [][2]int{{16, 16}, {0, 16}, {16, 0}, {15, 16}, {16, 17}, {32, 32}} {
			for _, piece := range call(keys[:sizes[0]], blocks[:sizes[1]]) {
				samples.Scribble(piece)
			}
			if !bytes.Equal(keys, wantKeys) || !bytes.Equal(blocks, wantBlocks) {
				t.Errorf("an argument of %s of %d and %d bytes was modified", name, sizes[0], sizes[1])
			}
		}
	}
}

func TestResultsDoNotChangeWithArguments(t *testing.T) {
	for name, call := range calls() {
		keys, blocks := samples.Bytes(200), samples.Bytes(300)[100:]
		got := call(keys[:16], blocks[:16])
		want := copied(got)
		samples.Scribble(keys)
		samples.Scribble(blocks)
		if !same(got, want) {
			t.Errorf("the result of %s changes with an argument", name)
		}
	}
}

func TestResultsAreNewEachTime(t *testing.T) {
	for name, call := range calls() {
		key, block := samples.Bytes(16), samples.Bytes(16)
		first, second := call(key, block), call(key, block)
		want := copied(first)
		for i := range first {
			samples.Scribble(first[i])
		}
		if !same(second, want) {
			t.Errorf("two results of %s share memory", name)
		}
		if !same(call(key, block), want) {
			t.Errorf("a further call of %s returns something else", name)
		}
	}
}

func TestKeysShareNoMemory(t *testing.T) {
	for changed := range 11 {
		keys, _ := Expand(samples.Bytes(16))
		want := copied(keys)
		samples.Scribble(keys[changed])
		// What is appended to a key must not run into the next one.
		_ = append(keys[changed], 1, 2, 3)
		for i := range keys {
			if i != changed && !bytes.Equal(keys[i], want[i]) {
				t.Errorf("the key %d changes with the key %d", i, changed)
			}
		}
	}
}

func TestKeyAndBlockMayBeTheSameSlice(t *testing.T) {
	r := rand.New(rand.NewSource(5))
	b := make([]byte, 16)
	for range 100 {
		r.Read(b)
		checkBlock(t, b, b)
	}
}

// R6: a result is the same again, whatever calls came in between.

func TestResultsDependOnArgumentsOnly(t *testing.T) {
	for name, call := range calls() {
		key, block := samples.Bytes(16), samples.Bytes(32)[16:]
		want := call(key, block)
		for size := range 40 {
			call(samples.Bytes(size), samples.Bytes(40-size))
			Substitute(size)
		}
		if got := call(key, block); !same(got, want) {
			t.Errorf("%s returns %x and later %x", name, want, got)
		}
	}
}
