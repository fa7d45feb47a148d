package modes

import (
	"bytes"
	"crypto/cipher"
	"math/rand"
	"testing"

	"traveldoc/api"
	"traveldoc/samples"
)

// P6.2

func TestPublishedChain(t *testing.T) {
	key, iv, b := samples.Unhex(publishedKey), samples.Unhex("000102030405060708090a0b0c0d0e0f"), samples.Unhex(publishedText)
	want := samples.Unhex("7649abac8119b246cee98e9b12e9197d" + "5086cb9b507219ee95db113a917678b2" +
		"73bed6b8e3c1743b7116e69e22229516" + "3ff1caa1681fac09120eca307586e1a7")
	for n := 0; n <= len(b); n += 16 {
		if got := sealed(t, key, iv, b[:n]); !bytes.Equal(got, want[:n]) {
			t.Errorf("Seal of %d blocks is %x, want %x", n/16, got, want[:n])
		}
		if got, e := Open(key, iv, want[:n]); !bytes.Equal(got, b[:n]) || e != api.OK {
			t.Errorf("Open of %d blocks is %x, %d, want %x", n/16, got, e, b[:n])
		}
	}
}

// checkChain compares Seal and Open with the standard library.
func checkChain(t *testing.T, key, iv, b []byte) {
	t.Helper()
	c, want := library(t, key), make([]byte, len(b))
	cipher.NewCBCEncrypter(c, iv).CryptBlocks(want, b)
	if got, e := Seal(key, iv, b); !bytes.Equal(got, want) || e != api.OK {
		t.Fatalf("Seal(%x, %x, %x) = %x, %d, want %x", key, iv, b, got, e, want)
	}
	cipher.NewCBCDecrypter(c, iv).CryptBlocks(want, b)
	if got, e := Open(key, iv, b); !bytes.Equal(got, want) || e != api.OK {
		t.Fatalf("Open(%x, %x, %x) = %x, %d, want %x", key, iv, b, got, e, want)
	}
}

func TestChain(t *testing.T) {
	r := rand.New(rand.NewSource(3))
	zero, full := make([]byte, 16), bytes.Repeat([]byte{0xff}, 16)
	for n := range 24 {
		checkChain(t, random(r, 16), random(r, 16), random(r, 16*n))
		checkChain(t, random(r, 16), zero, make([]byte, 16*n))
		checkChain(t, zero, full, samples.Bytes(16*n))
		checkChain(t, full, zero, bytes.Repeat(full, n))
	}
	checkChain(t, samples.Bytes(16), full, samples.Bytes(api.MaxBytes))
}

// No bytes give no bytes, without an error.
func TestChainOfNoBytes(t *testing.T) {
	for _, b := range [][]byte{nil, {}} {
		if got, e := Seal(samples.Bytes(16), samples.Bytes(16), b); len(got) != 0 || e != api.OK {
			t.Errorf("Seal of no bytes is %x, %d", got, e)
		}
		if got, e := Open(samples.Bytes(16), samples.Bytes(16), b); len(got) != 0 || e != api.OK {
			t.Errorf("Open of no bytes is %x, %d", got, e)
		}
	}
}

// The key and the initial vector come before the length of the bytes.
func TestChainErrors(t *testing.T) {
	sizes := []int{0, 1, 8, 15, 16, 17, 24, 31, 32, 33, 64}
	for _, k := range sizes {
		for _, v := range sizes {
			for _, n := range append(sizes, 47, 48, 49) {
				want := api.OK
				switch {
				case k != 16 || v != 16:
					want = api.ErrInvalid
				case n%16 != 0:
					want = api.ErrSize
				}
				for name, call := range map[string]func(key, iv, b []byte) ([]byte, api.Errno){"Seal": Seal, "Open": Open} {
					got, e := call(samples.Bytes(k), samples.Bytes(v), samples.Bytes(n))
					if e != want {
						t.Errorf("%s with %d, %d and %d bytes returns %d, want %d", name, k, v, n, e, want)
					}
					if e != api.OK && len(got) != 0 || e == api.OK && len(got) != n {
						t.Errorf("%s with %d, %d and %d bytes returns %d bytes", name, k, v, n, len(got))
					}
				}
			}
		}
	}
}
