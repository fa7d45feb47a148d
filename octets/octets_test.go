package octets

import (
	"bytes"
	"encoding/hex"
	"math"
	"math/big"
	"strings"
	"testing"

	"traveldoc/api"
	"traveldoc/samples"
)

// allBytes returns each byte once, in ascending order.
func allBytes() []byte {
	b := make([]byte, 256)
	for i := range b {
		b[i] = byte(i)
	}
	return b
}

// P1.1

func TestHex(t *testing.T) {
	for _, x := range []struct {
		b    []byte
		want string
	}{
		{[]byte{0, 171}, "00ab"},
		{[]byte{0x1f}, "1f"},
		{[]byte{0xf1}, "f1"},
		{[]byte{0}, "00"},
		{[]byte{0xab, 0xcd, 0xef}, "abcdef"},
		{nil, ""},
		{[]byte{}, ""},
	} {
		if s := Hex(x.b); s != x.want {
			t.Errorf("Hex(%v) = %q, want %q", x.b, s, x.want)
		}
	}
	if s := Hex(allBytes()); s != hex.EncodeToString(allBytes()) {
		t.Errorf("Hex of all bytes = %q", s)
	}
}

func TestUnhex(t *testing.T) {
	for _, x := range []struct {
		s    string
		want []byte
	}{
		{"00AB", []byte{0, 171}},
		{"00ab", []byte{0, 171}},
		{"aBCd", []byte{0xab, 0xcd}},
		{"0123456789", []byte{0x01, 0x23, 0x45, 0x67, 0x89}},
		{"ABCDEF", []byte{0xab, 0xcd, 0xef}},
		{"", nil},
	} {
		b, e := Unhex(x.s)
		if e != api.OK || !bytes.Equal(b, x.want) {
			t.Errorf("Unhex(%q) = %v, %d, want %v", x.s, b, e, x.want)
		}
	}
}

func TestUnhexReadsWhatHexWrites(t *testing.T) {
	for n := range 300 {
		want := samples.Bytes(n)
		for _, s := range []string{Hex(want), strings.ToUpper(Hex(want))} {
			if b, e := Unhex(s); e != api.OK || !bytes.Equal(b, want) {
				t.Fatalf("Unhex(%q) = %v, %d", s, b, e)
			}
		}
	}
}

func TestUnhexRefusesAnOddNumberOfDigits(t *testing.T) {
	for _, s := range []string{"0", "F", "000", "00ABc", "0g1", "é0"} {
		if b, e := Unhex(s); e != api.ErrForm || b != nil {
			t.Errorf("Unhex(%q) = %v, %d, want ErrForm", s, b, e)
		}
	}
}

func TestUnhexRefusesOtherBytes(t *testing.T) {
	for c := range 256 {
		want := api.ErrForm
		if strings.IndexByte("0123456789abcdefABCDEF", byte(c)) >= 0 {
			want = api.OK
		}
		for _, place := range []int{0, 1, 2, 3} {
			s := []byte("7e7e")
			s[place] = byte(c)
			b, e := Unhex(string(s))
			if e != want {
				t.Errorf("Unhex(%q) returns %d, want %d", s, e, want)
			}
			if e != api.OK && b != nil {
				t.Errorf("Unhex(%q) = %v beside an error", s, b)
			}
		}
	}
	for _, s := range []string{" 0", "0 ", "+1", "-1", "0x", "00 ", "é", "00\n0"} {
		if b, e := Unhex(s); e != api.ErrForm || b != nil {
			t.Errorf("Unhex(%q) = %v, %d, want ErrForm", s, b, e)
		}
	}
}

// P1.2

func TestNumber(t *testing.T) {
	for _, x := range []struct {
		b    []byte
		want int
	}{
		{nil, 0},
		{[]byte{}, 0},
		{[]byte{0}, 0},
		{[]byte{255}, 255},
		{[]byte{1, 0}, 256},
		{[]byte{0, 1}, 1},
		{[]byte{1, 2, 3}, 0x010203},
		{[]byte{0x80, 0, 0, 0}, 1 << 31},
		{[]byte{1, 2, 3, 4, 5, 6, 7}, 0x01020304050607},
		{[]byte{0, 0, 0, 0, 0, 0, 9}, 9},
		{[]byte{255, 255, 255, 255, 255, 255, 255}, 1<<56 - 1},
	} {
		if n, e := Number(x.b); n != x.want || e != api.OK {
			t.Errorf("Number(%v) = %d, %d, want %d", x.b, n, e, x.want)
		}
	}
}

func TestNumberRefusesMoreThanSevenBytes(t *testing.T) {
	for _, b := range [][]byte{
		make([]byte, 8),
		{0, 0, 0, 0, 0, 0, 0, 1},
		{255, 255, 255, 255, 255, 255, 255, 255},
		samples.Bytes(9),
		samples.Bytes(1000),
	} {
		if n, e := Number(b); n != 0 || e != api.ErrSize {
			t.Errorf("Number(%v) = %d, %d, want ErrSize", b, n, e)
		}
	}
}

func TestOctets(t *testing.T) {
	for _, x := range []struct {
		n, size int
		want    []byte
	}{
		{0, 0, nil},
		{0, 1, []byte{0}},
		{255, 1, []byte{255}},
		{256, 2, []byte{1, 0}},
		{1, 3, []byte{0, 0, 1}},
		{0x010203, 3, []byte{1, 2, 3}},
		{0, 7, make([]byte, 7)},
		{0x01020304050607, 7, []byte{1, 2, 3, 4, 5, 6, 7}},
		{1<<56 - 1, 7, []byte{255, 255, 255, 255, 255, 255, 255}},
	} {
		if b, e := Octets(x.n, x.size); e != api.OK || !bytes.Equal(b, x.want) {
			t.Errorf("Octets(%d, %d) = %v, %d, want %v", x.n, x.size, b, e, x.want)
		}
	}
}

func TestOctetsRefusesSizes(t *testing.T) {
	for _, size := range []int{-1, -7, 8, 9, 64, math.MinInt, math.MaxInt} {
		for _, n := range []int{0, 1, 1 << 60, -1, math.MinInt, math.MaxInt} {
			if b, e := Octets(n, size); e != api.ErrSize || b != nil {
				t.Errorf("Octets(%d, %d) = %v, %d, want ErrSize", n, size, b, e)
			}
		}
	}
}

func TestOctetsRefusesNumbers(t *testing.T) {
	for size := range 8 {
		first := 1 << (8 * size)
		for _, n := range []int{-1, -256, math.MinInt, first, first + 1, math.MaxInt} {
			if b, e := Octets(n, size); e != api.ErrRange || b != nil {
				t.Errorf("Octets(%d, %d) = %v, %d, want ErrRange", n, size, b, e)
			}
		}
		b, e := Octets(first-1, size)
		if e != api.OK || !bytes.Equal(b, bytes.Repeat([]byte{255}, size)) {
			t.Errorf("Octets(%d, %d) = %v, %d", first-1, size, b, e)
		}
	}
}

// P1.3

func TestXor(t *testing.T) {
	for _, x := range []struct{ a, b, want []byte }{
		{[]byte{0b1100, 255, 0}, []byte{0b1010, 255, 7}, []byte{0b0110, 0, 7}},
		{[]byte{0x80}, []byte{0x01}, []byte{0x81}},
		{nil, nil, nil},
		{nil, []byte{}, nil},
		{[]byte{}, nil, nil},
	} {
		if b, e := Xor(x.a, x.b); e != api.OK || !bytes.Equal(b, x.want) {
			t.Errorf("Xor(%v, %v) = %v, %d, want %v", x.a, x.b, b, e, x.want)
		}
	}
	for c := range 256 {
		a := bytes.Repeat([]byte{byte(c)}, 256)
		x, e := Xor(a, allBytes())
		if e != api.OK || len(x) != 256 {
			t.Fatalf("Xor = %v, %d", x, e)
		}
		for d, y := range x {
			if int(y) != c^d {
				t.Fatalf("%d xor %d = %d", c, d, y)
			}
		}
	}
}

func TestXorRefusesDifferentLengths(t *testing.T) {
	for _, x := range []struct{ a, b []byte }{
		{[]byte{1}, nil}, {nil, []byte{1}}, {[]byte{1, 2}, []byte{1}}, {samples.Bytes(16), samples.Bytes(17)},
	} {
		if b, e := Xor(x.a, x.b); e != api.ErrSize || b != nil {
			t.Errorf("Xor(%v, %v) = %v, %d, want ErrSize", x.a, x.b, b, e)
		}
	}
}

func TestSame(t *testing.T) {
	for _, x := range []struct {
		a, b []byte
		want bool
	}{
		{nil, nil, true},
		{nil, []byte{}, true},
		{[]byte{}, nil, true},
		{nil, []byte{0}, false},
		{[]byte{0}, nil, false},
		{[]byte{1, 2, 3}, []byte{1, 2, 3}, true},
		{[]byte{1, 2, 3}, []byte{1, 3, 2}, false},
		{[]byte{1, 2, 3}, []byte{1, 2}, false},
		{[]byte{1, 2}, []byte{1, 2, 0}, false},
		{[]byte{9, 2, 3}, []byte{1, 2, 3}, false},
		{[]byte{1, 2, 9}, []byte{1, 2, 3}, false},
	} {
		if got := Same(x.a, x.b); got != x.want {
			t.Errorf("Same(%v, %v) = %v", x.a, x.b, got)
		}
	}
	for i := range 64 {
		a := samples.Bytes(64)
		a[i] ^= 0x80
		if Same(a, samples.Bytes(64)) {
			t.Errorf("Same does not see the byte %d", i)
		}
	}
}

// P1.4

func TestSplit(t *testing.T) {
	for _, x := range []struct {
		b    []byte
		size int
		want [][]byte
	}{
		{[]byte{1, 2, 3}, 2, [][]byte{{1, 2}, {3}}},
		{[]byte{1, 2, 3, 4}, 2, [][]byte{{1, 2}, {3, 4}}},
		{[]byte{1, 2, 3}, 1, [][]byte{{1}, {2}, {3}}},
		{[]byte{1, 2, 3}, 3, [][]byte{{1, 2, 3}}},
		{[]byte{1, 2, 3}, 4, [][]byte{{1, 2, 3}}},
		{[]byte{1, 2, 3}, math.MaxInt, [][]byte{{1, 2, 3}}},
		{[]byte{1, 2, 3}, 1 << 62, [][]byte{{1, 2, 3}}},
		{nil, 1, nil},
		{[]byte{}, 5, nil},
		{nil, math.MaxInt, nil},
	} {
		l, e := Split(x.b, x.size)
		if e != api.OK || len(l) != len(x.want) {
			t.Errorf("Split(%v, %d) = %v, %d, want %v", x.b, x.size, l, e, x.want)
			continue
		}
		for i := range l {
			if !bytes.Equal(l[i], x.want[i]) {
				t.Errorf("Split(%v, %d) = %v, want %v", x.b, x.size, l, x.want)
			}
		}
	}
}

func TestSplitKeepsAllBytes(t *testing.T) {
	for n := range 40 {
		for size := 1; size < 45; size++ {
			b := samples.Bytes(n)
			l, e := Split(b, size)
			if e != api.OK || !bytes.Equal(bytes.Join(l, nil), b) {
				t.Fatalf("Split(%v, %d) = %v, %d", b, size, l, e)
			}
			for i, p := range l {
				last := i == len(l)-1
				if len(p) != size && (!last || len(p) == 0 || len(p) > size) {
					t.Fatalf("Split(%v, %d) has the piece %v", b, size, p)
				}
			}
		}
	}
}

func TestSplitRefusesSizes(t *testing.T) {
	for _, size := range []int{0, -1, math.MinInt} {
		for _, b := range [][]byte{nil, {1, 2, 3}} {
			if l, e := Split(b, size); e != api.ErrRange || l != nil {
				t.Errorf("Split(%v, %d) = %v, %d, want ErrRange", b, size, l, e)
			}
		}
	}
}

// The consequences

func TestNumberOfOctets(t *testing.T) {
	for size := range 8 {
		limit := 1 << (8 * size)
		for _, n := range []int{0, 1, 127, 128, 255, 256, 65535, 65536, limit / 3, limit - 1} {
			if n >= limit {
				continue
			}
			b, e := Octets(n, size)
			if e != api.OK || len(b) != size {
				t.Errorf("Octets(%d, %d) = %v, %d", n, size, b, e)
			}
			if m, e := Number(b); m != n || e != api.OK {
				t.Errorf("Number(Octets(%d, %d)) = %d, %d", n, size, m, e)
			}
		}
	}
}

func TestOctetsOfNumber(t *testing.T) {
	for size := range 8 {
		for _, b := range [][]byte{
			make([]byte, size), samples.Bytes(size), bytes.Repeat([]byte{255}, size), bytes.Repeat([]byte{0, 200}, 4)[:size],
		} {
			n, e := Number(b)
			if e != api.OK || int64(n) != new(big.Int).SetBytes(b).Int64() {
				t.Errorf("Number(%v) = %d, %d", b, n, e)
			}
			if c, e := Octets(n, len(b)); e != api.OK || !bytes.Equal(c, b) {
				t.Errorf("Octets(Number(%v)) = %v, %d", b, c, e)
			}
		}
	}
}

func TestXorTwice(t *testing.T) {
	for n := range 100 {
		a, b := samples.Bytes(n), bytes.Repeat([]byte{0x5a}, n)
		x, e := Xor(a, b)
		if e != api.OK {
			t.Fatal(e)
		}
		if n > 0 && bytes.Equal(x, a) {
			t.Errorf("Xor(%v, %v) changes nothing", a, b)
		}
		if y, e := Xor(x, b); e != api.OK || !bytes.Equal(y, a) {
			t.Errorf("Xor(Xor(a, b), b) = %v, %d, want %v", y, e, a)
		}
	}
}

// R2: arguments are not modified, and results share no memory with them or with each other.

func TestArgumentsAreNotModified(t *testing.T) {
	for n := range 12 {
		whole := samples.Bytes(n + 8)
		other := bytes.Repeat([]byte{0xc3}, n)
		// The bytes behind the argument belong to somebody else, though its capacity covers them.
		b := whole[:n]
		Hex(b)
		Number(b)
		Xor(b, other)
		Xor(other, b)
		Xor(b, b)
		Same(b, other)
		Same(b, b)
		Split(b, 3)
		Split(b, 100)
		if !bytes.Equal(whole, samples.Bytes(n+8)) || !bytes.Equal(other, bytes.Repeat([]byte{0xc3}, n)) {
			t.Errorf("an argument of %d bytes was modified", n)
		}
	}
}

func TestResultsShareNoMemory(t *testing.T) {
	a, b := samples.Bytes(5), samples.Bytes(5)
	x, _ := Xor(a, b)
	samples.Scribble(x)
	if !bytes.Equal(a, samples.Bytes(5)) || !bytes.Equal(b, samples.Bytes(5)) {
		t.Error("the result of Xor shares memory with an argument")
	}
	for _, size := range []int{1, 2, 5, 6} {
		l, _ := Split(a, size)
		for i := range l {
			before, _ := Split(a, size)
			samples.Scribble(l[i])
			for j := i + 1; j < len(l); j++ {
				if !bytes.Equal(l[j], before[j]) {
					t.Errorf("pieces %d and %d of the size %d share memory", i, j, size)
				}
			}
		}
		if !bytes.Equal(a, samples.Bytes(5)) {
			t.Errorf("pieces of the size %d share memory with the argument", size)
		}
	}
}

func TestResultsAreNewEachTime(t *testing.T) {
	for _, call := range []func() []byte{
		func() []byte { b, _ := Unhex("0102"); return b },
		func() []byte { b, _ := Octets(258, 2); return b },
		func() []byte { b, _ := Xor([]byte{0, 0}, []byte{1, 2}); return b },
		func() []byte { l, _ := Split([]byte{1, 2}, 2); return l[0] },
	} {
		samples.Scribble(call())
		if b := call(); !bytes.Equal(b, []byte{1, 2}) {
			t.Errorf("a second call returns %v", b)
		}
	}
}
