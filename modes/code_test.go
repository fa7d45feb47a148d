package modes

import (
	"bytes"
	"math/big"
	"math/rand"
	"testing"

	"traveldoc/api"
	"traveldoc/samples"
)

// P6.3

func TestPublishedCodes(t *testing.T) {
	key, text := samples.Unhex(publishedKey), samples.Unhex(publishedText)
	for _, x := range []struct {
		n    int
		want string
	}{
		{0, "bb1d6929e95937287fa37d129b756746"},
		{16, "070a16b46b4d4144f79bdd9dd04a287c"},
		{20, "7d85449ea6ea19c823a7bf78837dfade"},
		{40, "dfa66747de9ae63030ca32611497c827"},
		{64, "51f0bebf7e3b9d92fc49741779363cfe"},
	} {
		want := samples.Unhex(x.want)
		if got := coded(t, key, text[:x.n]); !bytes.Equal(got, want) {
			t.Errorf("Code of %d bytes is %x, want %s", x.n, got, x.want)
		}
		if got, e := Check(key, text[:x.n]); !bytes.Equal(got, want[:8]) || e != api.OK {
			t.Errorf("Check of %d bytes is %x, %d, want %x", x.n, got, e, want[:8])
		}
	}
}

// doubled is the document's definition, with a number of 128 bits.
func doubled(block []byte) []byte {
	n := new(big.Int).SetBytes(block)
	n.Lsh(n, 1)
	out := n.Bit(128)
	n.SetBit(n, 128, 0)
	if out == 1 {
		n.Xor(n, big.NewInt(0x87))
	}
	return n.FillBytes(make([]byte, 16))
}

// definedCode is the document's definition of Code, with the cipher of the standard library.
func definedCode(t *testing.T, key, b []byte) []byte {
	t.Helper()
	c, k1 := library(t, key), make([]byte, 16)
	c.Encrypt(k1, k1)
	k1 = doubled(k1)
	mask, body := k1, bytes.Clone(b)
	if len(b) == 0 || len(b)%16 != 0 {
		mask = doubled(k1)
		body = append(body, 0x80)
		for len(body)%16 != 0 {
			body = append(body, 0)
		}
	}
	for i, x := range mask {
		body[len(body)-16+i] ^= x
	}
	state := make([]byte, 16)
	for i, x := range body {
		state[i%16] ^= x
		if i%16 == 15 {
			c.Encrypt(state, state)
		}
	}
	return state
}

func checkCode(t *testing.T, key, b []byte) {
	t.Helper()
	want := definedCode(t, key, b)
	if got, e := Code(key, b); !bytes.Equal(got, want) || e != api.OK {
		t.Fatalf("Code(%x, %x) = %x, %d, want %x", key, b, got, e, want)
	}
	if got, e := Check(key, b); !bytes.Equal(got, want[:8]) || e != api.OK {
		t.Fatalf("Check(%x, %x) = %x, %d, want %x", key, b, got, e, want[:8])
	}
}

func TestCodeOfAllSizes(t *testing.T) {
	r := rand.New(rand.NewSource(4))
	for n := range 100 {
		checkCode(t, samples.Bytes(16), samples.Bytes(n))
		checkCode(t, random(r, 16), random(r, n))
		checkCode(t, random(r, 16), make([]byte, n))
	}
	checkCode(t, samples.Bytes(16), samples.Bytes(api.MaxBytes))
	checkCode(t, samples.Bytes(16), samples.Bytes(api.MaxBytes-1))
}

// Both doublings shift a bit out for some keys and none for others.
func TestCodeWithAllCarries(t *testing.T) {
	r := rand.New(rand.NewSource(5))
	var seen [4]int
	for range 64 {
		key, first := random(r, 16), make([]byte, 16)
		library(t, key).Encrypt(first, first)
		seen[first[0]>>7<<1|doubled(first)[0]>>7]++
		for _, n := range []int{0, 1, 15, 16, 17, 31, 32, 33} {
			checkCode(t, key, samples.Bytes(n))
		}
	}
	for i, n := range seen {
		if n == 0 {
			t.Errorf("no key has the carries %d", i)
		}
	}
}

func TestDouble(t *testing.T) {
	for _, x := range []struct{ block, want string }{
		{"00000000000000000000000000000000", "00000000000000000000000000000000"},
		{"00000000000000000000000000000001", "00000000000000000000000000000002"},
		{"00000000000000000000000000000080", "00000000000000000000000000000100"},
		{"40000000000000000000000000000000", "80000000000000000000000000000000"},
		{"80000000000000000000000000000000", "00000000000000000000000000000087"},
		{"80000000000000000000000000000001", "00000000000000000000000000000085"},
		{"ffffffffffffffffffffffffffffffff", "ffffffffffffffffffffffffffffff79"},
		{"7df76b0c1ab899b33e42f047b91b546f", "fbeed618357133667c85e08f7236a8de"},
		{"fbeed618357133667c85e08f7236a8de", "f7ddac306ae266ccf90bc11ee46d513b"},
	} {
		if got := double(samples.Unhex(x.block)); !bytes.Equal(got, samples.Unhex(x.want)) {
			t.Errorf("double(%s) = %x, want %s", x.block, got, x.want)
		}
	}
	r := rand.New(rand.NewSource(6))
	for range 200 {
		b := random(r, 16)
		if got := double(b); !bytes.Equal(got, doubled(b)) {
			t.Errorf("double(%x) = %x, want %x", b, got, doubled(b))
		}
	}
}

// Bytes that are padded already have another code than the bytes before them: the last block is combined with another key.
func TestCodeTellsPaddingApart(t *testing.T) {
	for n := range 64 {
		if b := samples.Bytes(n); bytes.Equal(coded(t, samples.Bytes(16), b), coded(t, samples.Bytes(16), Pad(b))) {
			t.Errorf("%x and its padding have the same code", b)
		}
	}
}

func TestCodeErrors(t *testing.T) {
	for k := range 40 {
		for _, n := range []int{0, 1, 15, 16, 17, 32} {
			want, size := api.ErrInvalid, 0
			if k == 16 {
				want, size = api.OK, 16
			}
			if got, e := Code(samples.Bytes(k), samples.Bytes(n)); e != want || len(got) != size {
				t.Errorf("Code with %d and %d bytes returns %x, %d, want %d", k, n, got, e, want)
			}
			if got, e := Check(samples.Bytes(k), samples.Bytes(n)); e != want || len(got) != size/2 {
				t.Errorf("Check with %d and %d bytes returns %x, %d, want %d", k, n, got, e, want)
			}
		}
	}
}

// The rest of the long code cannot be reached from the short one.
func TestCheckEndsWithItsCapacity(t *testing.T) {
	if got, e := Check(samples.Bytes(16), samples.Bytes(20)); cap(got) != 8 || e != api.OK {
		t.Errorf("%d, %d", cap(got), e)
	}
}
