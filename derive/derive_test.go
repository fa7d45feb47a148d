package derive

import (
	"bytes"
	"crypto/sha256"
	"encoding/binary"
	"math/big"
	"testing"

	"traveldoc/api"
	"traveldoc/samples"
)

// Help for the tests of this package. What it is compared with are the document's definitions, with the digest of the standard library and with numbers of any size.

// sum returns the digest of bytes and of those that stand behind them.
func sum(b []byte, behind ...byte) []byte {
	x := sha256.Sum256(append(bytes.Clone(b), behind...))
	return x[:]
}

func definedKey(secret []byte, use int) []byte {
	return sum(secret, binary.BigEndian.AppendUint32(nil, uint32(use))...)[:16]
}

func definedDraw(seed []byte, n int) (out, next []byte) {
	for i := range (n + 31) / 32 {
		out = append(out, sum(seed, 1, byte(i>>24), byte(i>>16), byte(i>>8), byte(i))...)
	}
	return out[:n], sum(seed, 0)
}

func definedSecret(seed []byte) (int, []byte) {
	out, next := definedDraw(seed, 8)
	n := new(big.Int).SetBytes(out[:7])
	n.Mod(n, big.NewInt(api.GroupOrder-1))
	return int(n.Int64()) + 1, next
}

// secrets returns secrets, or seeds, of many lengths.
func secrets() [][]byte {
	all := [][]byte{nil, {}, samples.Bytes(1000), samples.Bytes(api.MaxBytes)}
	for n := range 140 {
		all = append(all, samples.Bytes(n), make([]byte, n), bytes.Repeat([]byte{0xff}, n))
	}
	return all
}

// sizes returns numbers of bytes to draw, among them those around which a further piece is needed.
func sizes() []int {
	return []int{0, 1, 7, 8, 16, 31, 32, 33, 63, 64, 65, 96, 97, 100, 256, 992, 993, 1023, 1024}
}

// call is a function of the package, as one of bytes.
type call struct {
	name string
	on   func(b []byte) (results [][]byte, n int, e api.Errno)
}

// calls are all functions of the package, also with numbers that they refuse.
func calls() []call {
	all := []call{{"Secret", func(b []byte) ([][]byte, int, api.Errno) {
		n, next := Secret(b)
		return [][]byte{next}, n, api.OK
	}}}
	for _, use := range []int{-1, 0, 1, 65535, 65536} {
		all = append(all, call{"Key", func(b []byte) ([][]byte, int, api.Errno) {
			key, e := Key(b, use)
			return [][]byte{key}, 0, e
		}})
	}
	for _, n := range append(sizes(), -1, 1025) {
		all = append(all, call{"Draw", func(b []byte) ([][]byte, int, api.Errno) {
			out, next, e := Draw(b, n)
			return [][]byte{out, next}, 0, e
		}})
	}
	return all
}

// same tells whether two lists have the same bytes.
func same(a, b [][]byte) bool {
	for i := range a {
		if !bytes.Equal(a[i], b[i]) {
			return false
		}
	}
	return len(a) == len(b)
}

// copies returns copies of results.
func copies(l [][]byte) [][]byte {
	var out [][]byte
	for _, b := range l {
		out = append(out, bytes.Clone(b))
	}
	return out
}

// Examples

func TestExamples(t *testing.T) {
	for _, b := range secrets() {
		if out, next, e := Draw(b, 0); len(out) != 0 || len(next) != 32 || e != api.OK {
			t.Errorf("Draw(%x, 0) = %x, %x, %d", b, out, next, e)
		}
		if key, e := Key(b, 1); len(key) != 16 || e != api.OK {
			t.Errorf("Key(%x, 1) = %x, %d", b, key, e)
		}
		if key, e := Key(b, 65536); len(key) != 0 || e != api.ErrRange {
			t.Errorf("Key(%x, 65536) = %x, %d", b, key, e)
		}
	}
}

// Consequences

func TestFewerBytesAreTheBeginningOfMore(t *testing.T) {
	for _, seed := range [][]byte{nil, samples.Bytes(8), samples.Bytes(32), samples.Bytes(100)} {
		all, last, e := Draw(seed, 1024)
		if len(all) != 1024 || len(last) != 32 || e != api.OK {
			t.Fatalf("Draw(%x, 1024) = %x, %x, %d", seed, all, last, e)
		}
		for n := range 1024 {
			if out, next, e := Draw(seed, n); !bytes.Equal(out, all[:n]) || !bytes.Equal(next, last) || e != api.OK {
				t.Fatalf("Draw(%x, %d) = %x, %x, %d", seed, n, out, next, e)
			}
		}
	}
}

func TestSecretIsASecret(t *testing.T) {
	seed := []byte{}
	for range 2000 {
		n, next := Secret(seed)
		if n < 1 || n > api.GroupOrder-1 || len(next) != 32 {
			t.Fatalf("Secret(%x) = %d, %x", seed, n, next)
		}
		seed = next
	}
}

// R2 and R3

func TestArgumentsStay(t *testing.T) {
	for _, c := range calls() {
		for _, body := range secrets() {
			b := samples.Roomy(body)
			before := bytes.Clone(b[:cap(b)])
			results, _, _ := c.on(b)
			for _, r := range results {
				samples.Scribble(r)
			}
			if !bytes.Equal(b[:cap(b)], before) {
				t.Fatalf("%s of %x changes its argument, or shares memory with it", c.name, body)
			}
		}
	}
}

func TestResultsAreNew(t *testing.T) {
	for _, c := range calls() {
		for _, body := range secrets() {
			b := bytes.Clone(body)
			first, n, e := c.on(b)
			want := copies(first)
			second, _, _ := c.on(b)
			for _, r := range second {
				samples.Scribble(r)
			}
			samples.Scribble(b)
			if !same(first, want) {
				t.Fatalf("a result of %s of %x shares memory with a later one or with the argument", c.name, body)
			}
			if third, m, f := c.on(body); !same(third, want) || m != n || f != e {
				t.Fatalf("%s of %x returns %x, %d, %d and then %x, %d, %d", c.name, body, want, n, e, third, m, f)
			}
		}
	}
}

func TestDrawnBytesAndNextSeedShareNoMemory(t *testing.T) {
	for _, n := range sizes() {
		out, next, _ := Draw(samples.Bytes(32), n)
		wantOut, wantNext := definedDraw(samples.Bytes(32), n)
		samples.Scribble(out)
		if !bytes.Equal(next, wantNext) {
			t.Errorf("the next seed changes with %d drawn bytes", n)
		}
		out, next, _ = Draw(samples.Bytes(32), n)
		samples.Scribble(next)
		if !bytes.Equal(out, wantOut) {
			t.Errorf("%d drawn bytes change with the next seed", n)
		}
	}
}

func TestNilIsEmpty(t *testing.T) {
	for _, c := range calls() {
		got, n, e := c.on(nil)
		want, m, f := c.on([]byte{})
		if !same(got, want) || n != m || e != f {
			t.Errorf("%s returns %x, %d, %d for nil and %x, %d, %d for empty", c.name, got, n, e, want, m, f)
		}
	}
}

// A capacity is no part of an argument.
func TestCapacityDoesNotMatter(t *testing.T) {
	for _, c := range calls() {
		for _, body := range secrets() {
			got, n, e := c.on(samples.Roomy(body))
			want, m, f := c.on(body)
			if !same(got, want) || n != m || e != f {
				t.Fatalf("%s of %x returns %x, %d, %d with room behind it and %x, %d, %d without", c.name, body, got, n, e, want, m, f)
			}
		}
	}
}

// What was digested beyond the bytes that were asked for cannot be reached.
func TestResultsEndWithTheirCapacity(t *testing.T) {
	for use := range 8 {
		if key, e := Key(samples.Bytes(16), use); cap(key) != 16 || e != api.OK {
			t.Errorf("a key has room for %d bytes", cap(key))
		}
	}
	for _, n := range sizes() {
		if out, _, e := Draw(samples.Bytes(32), n); cap(out) != n || e != api.OK {
			t.Errorf("%d drawn bytes have room for %d", n, cap(out))
		}
	}
}
