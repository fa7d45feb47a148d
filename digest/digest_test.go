package digest

import (
	"bytes"
	"crypto/sha256"
	"encoding/hex"
	"math/rand"
	"strings"
	"testing"

	"traveldoc/api"
	"traveldoc/samples"
)

// Help for the tests of this package. The digest of the standard library is what the package is compared with.

// edges returns the lengths around which the padding gets a further block, and some others.
func edges() []int {
	return []int{0, 1, 3, 54, 55, 56, 57, 63, 64, 65, 118, 119, 120, 121, 127, 128, 129, 183, 184, 192, 247, 248, 1000, 4096}
}

// sum returns the digest that the standard library makes.
func sum(b []byte) []byte {
	x := sha256.Sum256(b)
	return x[:]
}

// P4.1

func TestPad(t *testing.T) {
	for _, x := range []struct {
		b    []byte
		want string
	}{
		{nil, "80" + strings.Repeat("00", 63)},
		{[]byte{}, "80" + strings.Repeat("00", 63)},
		{[]byte("abc"), "61626380" + strings.Repeat("00", 52) + "0000000000000018"},
		{[]byte{0}, "0080" + strings.Repeat("00", 54) + "0000000000000008"},
		{[]byte{0x80}, "8080" + strings.Repeat("00", 54) + "0000000000000008"},
		{bytes.Repeat([]byte{0xa5}, 31), strings.Repeat("a5", 31) + "80" + strings.Repeat("00", 24) + "00000000000000f8"},
		{bytes.Repeat([]byte{0xa5}, 32), strings.Repeat("a5", 32) + "80" + strings.Repeat("00", 23) + "0000000000000100"},
		{bytes.Repeat([]byte{0xff}, 54), strings.Repeat("ff", 54) + "8000" + "00000000000001b0"},
		{bytes.Repeat([]byte{0xff}, 55), strings.Repeat("ff", 55) + "80" + "00000000000001b8"},
		{bytes.Repeat([]byte{0xff}, 56), strings.Repeat("ff", 56) + "80" + strings.Repeat("00", 63) + "00000000000001c0"},
		{bytes.Repeat([]byte{0xff}, 63), strings.Repeat("ff", 63) + "80" + strings.Repeat("00", 56) + "00000000000001f8"},
		{bytes.Repeat([]byte{0xff}, 64), strings.Repeat("ff", 64) + "80" + strings.Repeat("00", 55) + "0000000000000200"},
		{bytes.Repeat([]byte{0xff}, 65), strings.Repeat("ff", 65) + "80" + strings.Repeat("00", 54) + "0000000000000208"},
		{bytes.Repeat([]byte{0xff}, 119), strings.Repeat("ff", 119) + "80" + "00000000000003b8"},
		{bytes.Repeat([]byte{0xff}, 120), strings.Repeat("ff", 120) + "80" + strings.Repeat("00", 63) + "00000000000003c0"},
		{bytes.Repeat([]byte{0xff}, 128), strings.Repeat("ff", 128) + "80" + strings.Repeat("00", 55) + "0000000000000400"},
	} {
		if got := hex.EncodeToString(Pad(x.b)); got != x.want {
			t.Errorf("Pad of %d bytes is %s, want %s", len(x.b), got, x.want)
		}
	}
}

func TestPadSizes(t *testing.T) {
	for _, x := range []struct{ n, want int }{
		{0, 64}, {1, 64}, {54, 64}, {55, 64}, {56, 128}, {57, 128}, {63, 128}, {64, 128}, {65, 128},
		{118, 128}, {119, 128}, {120, 192}, {127, 192}, {128, 192}, {183, 192}, {184, 256}, {4096, 4160},
	} {
		if got := len(Pad(samples.Bytes(x.n))); got != x.want {
			t.Errorf("Pad of %d bytes has %d bytes, want %d", x.n, got, x.want)
		}
	}
}

// TestPadHasItsParts takes the padding apart, for every length and for numbers of bits of up to four bytes.
func TestPadHasItsParts(t *testing.T) {
	lengths := []int{1<<13 - 1, 1 << 13, 1<<13 + 1, 1<<21 - 1, 1 << 21, 1<<21 + 55, 0x123456}
	for n := range 600 {
		lengths = append(lengths, n)
	}
	for _, n := range lengths {
		b := samples.Bytes(n)
		out := Pad(b)
		if len(out)%64 != 0 || len(out) < n+9 || len(out) >= n+9+64 {
			t.Fatalf("Pad of %d bytes has %d bytes", n, len(out))
		}
		end := len(out) - 8
		if !bytes.Equal(out[:n], b) || out[n] != 0x80 || !bytes.Equal(out[n+1:end], make([]byte, end-n-1)) {
			t.Fatalf("Pad of %d bytes does not consist of them, 0x80 and bytes 0", n)
		}
		if count := numberOf(out[end:]); count != uint64(n)*8 {
			t.Fatalf("Pad of %d bytes ends in %d", n, count)
		}
	}
}

// TestPadCountsMoreThan32Bits needs half a gigabyte: the least number of bytes whose bits do not fit into four bytes.
func TestPadCountsMoreThan32Bits(t *testing.T) {
	if testing.Short() {
		t.Skip("needs much memory")
	}
	const n = 1 << 29
	out := Pad(make([]byte, n))
	if len(out) != n+64 || out[n] != 0x80 || numberOf(out[n+56:]) != 1<<32 {
		t.Errorf("Pad of %d bytes has %d bytes and ends in %v", n, len(out), out[len(out)-64:])
	}
}

func numberOf(b []byte) uint64 {
	var n uint64
	for _, x := range b {
		n = n<<8 | uint64(x)
	}
	return n
}

// P4.3

func TestSumOfPublishedDigests(t *testing.T) {
	for _, x := range []struct{ text, want string }{
		{"", "e3b0c44298fc1c149afbf4c8996fb92427ae41e4649b934ca495991b7852b855"},
		{"abc", "ba7816bf8f01cfea414140de5dae2223b00361a396177a9cb410ff61f20015ad"},
		{"abcdbcdecdefdefgefghfghighijhijkijkljklmklmnlmnomnopnopq",
			"248d6a61d20638b8e5c026930c3e6039a33ce45964ff2167f6ecedd419db06c1"},
		{"abcdefghbcdefghicdefghijdefghijkefghijklfghijklmghijklmnhijklmnoijklmnopjklmnopqklmnopqrlmnopqrsmnopqrstnopqrstu",
			"cf5b16a778af8380036ce59e7b0492370b249b11e8f07a51afac45037afee9d1"},
		{strings.Repeat("a", 1000000), "cdc76e5c9914fb9281a1c7e284d73e67f1809a48a497200e046d39ccc7112cd0"},
		{strings.Repeat("01234567", 80), "594847328451bdfa85056225462cc1d867d877fb388df0ce35f25ab5562bfbb5"},
		{"\xbd", "68325720aabd7c82f30f554b313d0570c95accbb7dc4b5aae11204c08ffe732b"},
		{"\xc9\x8c\x8e\x55", "7abc22c0ae5af26ce93dbb94433a0e0b2e119d014f8e7f65bd56c61ccccd9504"},
		{strings.Repeat("\x00", 55), "02779466cdec163811d078815c633f21901413081449002f24aa3e80f0b88ef7"},
		{strings.Repeat("\x00", 56), "d4817aa5497628e7c77e6b606107042bbba3130888c5f47a375e6179be789fbb"},
		{strings.Repeat("\x00", 57), "65a16cb7861335d5ace3c60718b5052e44660726da4cd13bb745381b235a1785"},
		{strings.Repeat("\x00", 64), "f5a5fd42d16a20302798ef6ed309979b43003d2320d9f0e8ea9831a92759fb4b"},
		{strings.Repeat("\x00", 1000), "541b3e9daa09b20bf85fa273e5cbd3e80185aa4ec298e765db87742b70138a53"},
		{strings.Repeat("\x41", 1000), "c2e686823489ced2017f6059b8b239318b6364f6dcd835d0a519105a1eadd6e4"},
		{strings.Repeat("\x55", 1005), "f4d62ddec0f3dd90ea1380fa16a5ff8dc4c54b21740650f24afc4120903552b0"},
	} {
		if got := hex.EncodeToString(Sum([]byte(x.text))); got != x.want {
			t.Errorf("Sum of %d bytes is %s, want %s", len(x.text), got, x.want)
		}
	}
	if !bytes.Equal(Sum(nil), Sum([]byte{})) {
		t.Error("Sum makes a difference between nil and no bytes")
	}
}

func TestSumOfEachLength(t *testing.T) {
	for _, n := range edges() {
		if got := Sum(samples.Bytes(n)); !bytes.Equal(got, sum(samples.Bytes(n))) {
			t.Errorf("Sum of %d bytes is %x", n, got)
		}
	}
	r := rand.New(rand.NewSource(4))
	for n := range 520 {
		b := make([]byte, n)
		for range 3 {
			if got := Sum(b); !bytes.Equal(got, sum(b)) {
				t.Fatalf("Sum of %x is %x", b, got)
			}
			r.Read(b)
		}
	}
}

func TestSumDependsOnEachBit(t *testing.T) {
	for _, n := range []int{1, 55, 56, 64, 65} {
		for bit := range 8 * n {
			b := samples.Bytes(n)
			b[bit/8] ^= 0x80 >> (bit % 8)
			if got := Sum(b); !bytes.Equal(got, sum(b)) {
				t.Fatalf("Sum of %d bytes with another bit %d is %x", n, bit, got)
			}
		}
	}
}

func TestSumHas32Bytes(t *testing.T) {
	for _, n := range edges() {
		if got := len(Sum(make([]byte, n))); got != 32 {
			t.Errorf("Sum of %d bytes has %d bytes", n, got)
		}
	}
}

// Consequences

// TestSumBlockByBlock begins behind each of the blocks in turn, with the state that the standard library has there.
func TestSumBlockByBlock(t *testing.T) {
	lengths := []int{320, 375, 376, 639, 640, 641}
	for n := range 200 {
		lengths = append(lengths, n)
	}
	for _, n := range lengths {
		b := samples.Bytes(n)
		padded := Pad(b)
		for first := range n/64 + 1 {
			state := stateBehind(t, initial(), b[:first*64])
			for at := first * 64; at < len(padded); at += 64 {
				next, e := Compress(state, padded[at:at+64])
				if e != api.OK {
					t.Fatalf("Compress returns %d", e)
				}
				state = next
			}
			if got := bytesOf(state); !bytes.Equal(got, Sum(b)) || !bytes.Equal(got, sum(b)) {
				t.Fatalf("%d bytes from the block %d on give %x", n, first, got)
			}
		}
	}
}

// TestSumOfARest pads the rest alone, whose number of bits must be that of all bytes.
func TestSumOfARest(t *testing.T) {
	for _, n := range edges() {
		b := samples.Bytes(n)
		whole := n / 64 * 64
		state := initial()
		for at := 0; at < whole; at += 64 {
			state, _ = Compress(state, b[at:at+64])
		}
		rest := Pad(b[whole:])
		copy(rest[len(rest)-8:], Pad(b)[len(Pad(b))-8:])
		for ; len(rest) > 0; rest = rest[64:] {
			state, _ = Compress(state, rest[:64])
		}
		if got := bytesOf(state); !bytes.Equal(got, Sum(b)) {
			t.Errorf("%d bytes as blocks and a rest give %x", n, got)
		}
	}
}

// Examples

func TestExamples(t *testing.T) {
	if got := hex.EncodeToString(Sum(nil)); got != "e3b0c44298fc1c149afbf4c8996fb92427ae41e4649b934ca495991b7852b855" {
		t.Error(got)
	}
	if got := hex.EncodeToString(Sum([]byte("abc"))); got != "ba7816bf8f01cfea414140de5dae2223b00361a396177a9cb410ff61f20015ad" {
		t.Error(got)
	}
	if got := len(Pad(samples.Bytes(55))); got != 64 {
		t.Error(got)
	}
	if got := len(Pad(samples.Bytes(56))); got != 128 {
		t.Error(got)
	}
}

// R2: arguments are not modified, and results share no memory with them or with each other.

func TestArgumentsAreNotModified(t *testing.T) {
	for _, n := range edges() {
		whole := samples.Bytes(n + 200)
		// The bytes behind the argument belong to somebody else, though its capacity covers them.
		Pad(whole[:n])
		Sum(whole[:n])
		if !bytes.Equal(whole, samples.Bytes(n+200)) {
			t.Errorf("an argument of %d bytes was modified", n)
		}
	}
}

func TestResultsShareNoMemory(t *testing.T) {
	for _, n := range edges() {
		whole := samples.Bytes(n + 200)
		samples.Scribble(Pad(whole[:n]))
		samples.Scribble(Sum(whole[:n]))
		if !bytes.Equal(whole, samples.Bytes(n+200)) {
			t.Errorf("a result for %d bytes shares memory with the argument", n)
		}
		padded, digest := Pad(whole[:n]), Sum(whole[:n])
		samples.Scribble(whole)
		if !bytes.Equal(padded, Pad(samples.Bytes(n))) || !bytes.Equal(digest, Sum(samples.Bytes(n))) {
			t.Errorf("a result for %d bytes changes with the argument", n)
		}
	}
}

func TestResultsAreNewEachTime(t *testing.T) {
	for _, n := range edges() {
		b := samples.Bytes(n)
		want := Pad(b)
		samples.Scribble(Pad(b))
		samples.Scribble(Sum(b))
		if !bytes.Equal(Pad(b), want) || !bytes.Equal(Sum(b), sum(b)) {
			t.Errorf("a second call for %d bytes returns something else", n)
		}
	}
}
