package modes

import (
	"bytes"
	stdaes "crypto/aes"
	"crypto/cipher"
	"math/rand"
	"testing"

	"traveldoc/api"
	"traveldoc/samples"
)

// Help for the tests of this package. Block chaining and the cipher of the standard library are what the package is compared with.

const (
	publishedKey  = "2b7e151628aed2a6abf7158809cf4f3c"
	publishedText = "6bc1bee22e409f96e93d7e117393172a" + "ae2d8a571e03ac9c9eb76fac45af8e51" +
		"30c81c46a35ce411e5fbc1191a0a52ef" + "f69f2445df4f9b17ad2b417be66c3710"
)

// random returns n bytes of a generator.
func random(r *rand.Rand, n int) []byte {
	b := make([]byte, n)
	r.Read(b)
	return b
}

// library returns the cipher of the standard library.
func library(t *testing.T, key []byte) cipher.Block {
	t.Helper()
	c, err := stdaes.NewCipher(key)
	if err != nil {
		t.Fatal(err)
	}
	return c
}

// sealed returns Seal of b, which has to be right.
func sealed(t *testing.T, key, iv, b []byte) []byte {
	t.Helper()
	out, e := Seal(key, iv, b)
	if e != api.OK {
		t.Fatalf("Seal(%x, %x, %x) returns %d", key, iv, b, e)
	}
	return out
}

// coded returns Code of b, which has to be right.
func coded(t *testing.T, key, b []byte) []byte {
	t.Helper()
	out, e := Code(key, b)
	if e != api.OK {
		t.Fatalf("Code(%x, %x) returns %d", key, b, e)
	}
	return out
}

// unpaddedOf returns Unpad of b, which has to be right.
func unpaddedOf(t *testing.T, b []byte) []byte {
	t.Helper()
	out, e := Unpad(b)
	if e != api.OK {
		t.Fatalf("Unpad(%x) returns %d", b, e)
	}
	return out
}

// calls are all functions of the package as functions of three slices, of which each uses those that it has.
func calls() map[string]func(key, iv, b []byte) ([]byte, api.Errno) {
	return map[string]func(key, iv, b []byte) ([]byte, api.Errno){
		"Pad":   func(_, _, b []byte) ([]byte, api.Errno) { return Pad(b), api.OK },
		"Unpad": func(_, _, b []byte) ([]byte, api.Errno) { return Unpad(b) },
		"Seal":  Seal,
		"Open":  Open,
		"Code":  func(key, _, b []byte) ([]byte, api.Errno) { return Code(key, b) },
		"Check": func(key, _, b []byte) ([]byte, api.Errno) { return Check(key, b) },
	}
}

// bodies are arguments of many lengths, among them some that Unpad takes.
func bodies() [][]byte {
	var all [][]byte
	for n := range 70 {
		all = append(all, samples.Bytes(n), Pad(samples.Bytes(n)))
	}
	return all
}

// Examples

func TestExamples(t *testing.T) {
	key := samples.Unhex(publishedKey)
	if got := coded(t, key, nil); !bytes.Equal(got, samples.Unhex("bb1d6929e95937287fa37d129b756746")) {
		t.Errorf("%x", got)
	}
	if got := coded(t, key, samples.Unhex("6bc1bee22e409f96e93d7e117393172a")); !bytes.Equal(got, samples.Unhex("070a16b46b4d4144f79bdd9dd04a287c")) {
		t.Errorf("%x", got)
	}
	if got := len(Pad(samples.Bytes(16))); got != 32 {
		t.Error(got)
	}
	if got, e := Unpad(make([]byte, 16)); len(got) != 0 || e != api.ErrPadding {
		t.Error(got, e)
	}
}

// Consequences

func TestUnpadOfPad(t *testing.T) {
	r := rand.New(rand.NewSource(1))
	for n := range 300 {
		for _, b := range [][]byte{samples.Bytes(n), make([]byte, n), bytes.Repeat([]byte{0x80}, n), random(r, n)} {
			if got := unpaddedOf(t, Pad(b)); !bytes.Equal(got, b) {
				t.Fatalf("Unpad of Pad of %x is %x", b, got)
			}
		}
	}
}

func TestSealAndOpenLeadBack(t *testing.T) {
	r := rand.New(rand.NewSource(2))
	for n := range 20 {
		key, iv, b := random(r, 16), random(r, 16), random(r, 16*n)
		if got, e := Open(key, iv, sealed(t, key, iv, b)); !bytes.Equal(got, b) || e != api.OK {
			t.Fatalf("Open of Seal of %x is %x, %d", b, got, e)
		}
		opened, e := Open(key, iv, b)
		if e != api.OK {
			t.Fatal(e)
		}
		if got, e := Seal(key, iv, opened); !bytes.Equal(got, b) || e != api.OK {
			t.Fatalf("Seal of Open of %x is %x, %d", b, got, e)
		}
	}
}

// R2 and R3

func TestArgumentsStay(t *testing.T) {
	for name, call := range calls() {
		for _, body := range bodies() {
			key, iv, b := samples.Roomy(samples.Bytes(16)), samples.Roomy(samples.Bytes(32)[16:]), samples.Roomy(body)
			args := [][]byte{key, iv, b}
			var before [][]byte
			for _, x := range args {
				before = append(before, bytes.Clone(x[:cap(x)]))
			}
			out, _ := call(key, iv, b)
			samples.Scribble(out)
			for i, x := range args {
				if !bytes.Equal(x[:cap(x)], before[i]) {
					t.Fatalf("%s of %x changes argument %d, or its result shares memory with it", name, body, i)
				}
			}
		}
	}
}

func TestResultsAreNew(t *testing.T) {
	for name, call := range calls() {
		for _, body := range bodies() {
			key, iv, b := samples.Bytes(16), samples.Bytes(16), bytes.Clone(body)
			first, e := call(key, iv, b)
			want := bytes.Clone(first)
			second, _ := call(key, iv, b)
			samples.Scribble(second)
			samples.Scribble(key)
			samples.Scribble(iv)
			samples.Scribble(b)
			if !bytes.Equal(first, want) {
				t.Fatalf("a result of %s of %x shares memory with a later one or with an argument", name, body)
			}
			third, again := call(samples.Bytes(16), samples.Bytes(16), body)
			if !bytes.Equal(third, want) || again != e {
				t.Fatalf("%s of %x returns %x, %d and then %x, %d", name, body, want, e, third, again)
			}
		}
	}
}

func TestNilIsEmpty(t *testing.T) {
	key, iv := samples.Bytes(16), samples.Bytes(16)
	for name, call := range calls() {
		for _, x := range [][3][]byte{{key, iv, nil}, {nil, iv, nil}, {key, nil, nil}, {nil, nil, nil}} {
			empty := x
			for i := range empty {
				if empty[i] == nil {
					empty[i] = []byte{}
				}
			}
			got, e := call(x[0], x[1], x[2])
			want, f := call(empty[0], empty[1], empty[2])
			if !bytes.Equal(got, want) || e != f {
				t.Errorf("%s of %x returns %x, %d for nil and %x, %d for empty", name, x, got, e, want, f)
			}
		}
	}
}

// A capacity is no part of an argument.
func TestCapacityDoesNotMatter(t *testing.T) {
	for name, call := range calls() {
		for _, body := range bodies() {
			got, e := call(samples.Roomy(samples.Bytes(16)), samples.Roomy(samples.Bytes(16)), samples.Roomy(body))
			want, f := call(samples.Bytes(16), samples.Bytes(16), body)
			if !bytes.Equal(got, want) || e != f {
				t.Fatalf("%s of %x returns %x, %d with room behind it and %x, %d without", name, body, got, e, want, f)
			}
		}
	}
	for name, call := range calls() {
		if name == "Pad" || name == "Unpad" {
			continue
		}
		if got, e := call(samples.Bytes(16)[:15], samples.Bytes(16), samples.Bytes(16)); len(got) != 0 || e != api.ErrInvalid {
			t.Errorf("%s takes 15 bytes with room for 16 for a key: %x, %d", name, got, e)
		}
	}
}
