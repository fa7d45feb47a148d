package command

import (
	"bytes"
	"math/rand"
	"testing"

	"traveldoc/api"
	"traveldoc/samples"
)

// P18.2

func accept(t *testing.T, b []byte, want api.Command) {
	t.Helper()
	if c, e := Decode(b); e != api.OK || !same(c, want) {
		t.Errorf("%.20x (%d bytes): %.60s and %d, expected %.60s", b, len(b), textOf(c), e, textOf(want))
	}
}

func refuse(t *testing.T, b []byte, want api.Errno) {
	t.Helper()
	if c, e := Decode(b); e != want || !isZero(c) {
		t.Errorf("%.20x (%d bytes): %.60s and %d, expected %d", b, len(b), textOf(c), e, want)
	}
}

// expectDecode compares with the definitions.
func expectDecode(t *testing.T, b []byte) api.Errno {
	t.Helper()
	want, e := definedDecode(t, b)
	if e == api.OK {
		accept(t, b, want)
	} else {
		refuse(t, b, e)
	}
	return e
}

// The bytes were written by hand.
func TestDecodeOfBytes(t *testing.T) {
	of := func(expected int, data ...byte) api.Command {
		return api.Command{Class: 1, Instruction: 2, P1: 3, P2: 4, Data: data, Expected: expected}
	}
	for text, want := range map[string]api.Command{
		"":   of(-1),
		"01": of(1), "07": of(7), "ff": of(255), "00": of(256),
		"01 09": of(-1, 9), "01 00": of(-1, 0), "02 0900": of(-1, 9, 0), "03 090807": of(-1, 9, 8, 7),
		"01 09 06": of(6, 9), "01 00 00": of(256, 0), "01 09 00": of(256, 9), "01 09 ff": of(255, 9), "02 0908 01": of(1, 9, 8),
		"00 0001": of(1), "00 0007": of(7), "00 00ff": of(255), "00 0100": of(256), "00 0101": of(257), "00 ffff": of(65535), "00 0000": of(65536),
		"00 0001 09": of(-1, 9), "00 0001 00": of(-1, 0), "00 0003 090807": of(-1, 9, 8, 7),
		"00 0001 09 0006": of(6, 9), "00 0001 09 0100": of(256, 9), "00 0001 09 0101": of(257, 9), "00 0001 09 ffff": of(65535, 9),
		"00 0001 09 0000": of(65536, 9), "00 0002 0000 0000": of(65536, 0, 0), "00 0003 090807 0000": of(65536, 9, 8, 7),
	} {
		accept(t, samples.Unhex("01020304"+text), want)
	}
	accept(t, samples.Unhex("00000000"), api.Command{Expected: -1})
	accept(t, samples.Unhex("feffffff"), api.Command{Class: 254, Instruction: 255, P1: 255, P2: 255, Expected: -1})
	accept(t, samples.Unhex("feffffff ff"), api.Command{Class: 254, Instruction: 255, P1: 255, P2: 255, Expected: 255})
}

func TestDecodeOfFewerThanFourBytes(t *testing.T) {
	refuse(t, nil, api.ErrTruncated)
	for _, text := range []string{"", "00", "ff", "0000", "01", "ffff", "000000", "010203", "ffffff", "00a404", "ff0000"} {
		refuse(t, samples.Unhex(text), api.ErrTruncated)
	}
}

func TestDecodeOfOtherNumbersOfBytes(t *testing.T) {
	for _, text := range []string{
		// Short lengths with too few bytes, or too many.
		"02 09", "03 09", "ff 09", "01 0908 07", "01 09 0008", "02 0908 0706", "03 0908", "03 090807 0605", "05 01020304",
		// Extended lengths with too few bytes, or too many.
		"00 00", "00 01", "00 ff", "00 0002 09", "00 0100 09", "00 0001 09 08", "00 0001 09 080706", "00 0002 0908 07", "00 0002 0908 070605",
		"00 ffff 00", "00 0003 0908",
		// An extended length of 0 with bytes behind it.
		"00 0000 00", "00 0000 01", "00 0000 0000", "00 0000 0001", "00 0000 000000", "00 0000 00000000", "00 0000 0001 09",
	} {
		refuse(t, samples.Unhex("01020304"+text), api.ErrSize)
	}
}

// Each fifth byte with each number of bytes.
func TestDecodeOfEachFifthByte(t *testing.T) {
	for fifth := range 256 {
		seen := map[int]bool{}
		for size := range 300 {
			b := samples.Bytes(size)
			if size > 0 {
				b[0] = byte(fifth)
			}
			for _, class := range []byte{0, 254, 255} {
				all := append([]byte{class, 0xa4, 4, 12}, b...)
				if expectDecode(t, all) == api.OK && class == 0 {
					seen[size] = true
				}
			}
		}
		want := map[int]bool{0: true, 1: true, fifth + 1: true, fifth + 2: true}
		if fifth == 0 {
			// Otherwise the next two bytes, which are 48 and 85, want more.
			want = map[int]bool{0: true, 1: true, 3: true}
		}
		for size := range 300 {
			if seen[size] != want[size] {
				t.Errorf("the fifth byte %d with %d bytes: %v", fifth, size, seen[size])
			}
		}
	}
}

// Extended lengths with each number of bytes around those that are permitted.
func TestDecodeOfExtendedLengths(t *testing.T) {
	for _, n := range []int{0, 1, 2, 3, 4, 5, 127, 128, 255, 256, 257, 511, 512, 4094, 4095, 4096, 4097, 4098, 65534, 65535} {
		for behind := range 12 {
			for _, ahead := range []int{n - 4, 0} {
				size := ahead + behind
				if size < 0 {
					continue
				}
				b := append([]byte{7, 0xa4, 4, 12, 0, byte(n >> 8), byte(n)}, samples.Bytes(size)...)
				want := size == 0 || 0 < n && n <= 4096 && (size == n || size == n+2)
				if e := expectDecode(t, b); (e == api.OK) != want || !want && e != api.ErrSize {
					t.Errorf("the extended length %d with %d bytes behind it: %d", n, size, e)
				}
			}
		}
	}
}

// Each number of bytes of Data with extended lengths, whether or not short ones would do.
func TestDecodeOfEachSize(t *testing.T) {
	for size := range 4100 {
		for _, expected := range []int{-1, 1, 256, 65536} {
			c := commandOf(size, expected)
			want := api.OK
			if size > 4096 {
				want = api.ErrSize
			}
			text, ok := form{true, true, expected > 0}.text(c)
			if !ok {
				continue
			}
			if b := samples.Unhex(text); want == api.OK {
				accept(t, b, c)
			} else {
				refuse(t, b, want)
			}
		}
	}
}

// Decode reads each form of a command, not only its encoding.
func TestDecodeOfEachForm(t *testing.T) {
	for _, size := range sizes() {
		for _, expected := range expecteds() {
			c := commandOf(size, expected)
			l := writings(c)
			want := 2
			if size > 255 || expected > 256 || size == 0 && expected == -1 {
				want = 1
			}
			if len(l) != want {
				t.Fatal(size, expected, len(l))
			}
			for _, b := range l {
				accept(t, b, c)
			}
		}
	}
	for expected := 1; expected <= 65536; expected++ {
		for _, c := range []api.Command{commandOf(0, expected), commandOf(2, expected)} {
			for _, b := range writings(c) {
				accept(t, b, c)
			}
		}
	}
}

// Each byte of the head, also those that no class begins with.
func TestDecodeOfEachClass(t *testing.T) {
	for n := range 256 {
		x := byte(n)
		accept(t, []byte{1, x, 3, 4}, api.Command{Class: 1, Instruction: n, P1: 3, P2: 4, Expected: -1})
		accept(t, []byte{1, 2, x, 4}, api.Command{Class: 1, Instruction: 2, P1: n, P2: 4, Expected: -1})
		accept(t, []byte{1, 2, 3, x}, api.Command{Class: 1, Instruction: 2, P1: 3, P2: n, Expected: -1})
		for _, text := range []string{"", "09", "00", "0107", "010708", "000000", "00000107", "000001070001"} {
			rest := samples.Unhex("020304" + text)
			b := append([]byte{x}, rest...)
			if n == 255 {
				refuse(t, b, api.ErrInvalid)
				continue
			}
			want, _ := Decode(append([]byte{0}, rest...))
			want.Class = n
			accept(t, b, want)
		}
	}
}

// The order of the errors: what is too short has no number of bytes, and the class comes last.
func TestDecodeOrder(t *testing.T) {
	for _, text := range []string{"ff", "ffffff", "ff0203"} {
		refuse(t, samples.Unhex(text), api.ErrTruncated)
	}
	for _, text := range []string{"0209", "0000", "00000000", "00000109 08", "01 09 0807"} {
		refuse(t, samples.Unhex("ff020304"+text), api.ErrSize)
	}
	for _, class := range []byte{0, 254, 255} {
		for _, size := range []int{4097, 4098, 65535} {
			b := append([]byte{class, 2, 3, 4, 0, byte(size >> 8), byte(size)}, samples.Bytes(size)...)
			refuse(t, b, api.ErrSize)
			refuse(t, append(b, 0, 1), api.ErrSize)
			refuse(t, append(b, 0), api.ErrSize)
		}
	}
	full := append([]byte{255, 2, 3, 4, 0, 16, 0}, samples.Bytes(4096)...)
	refuse(t, full, api.ErrInvalid)
	refuse(t, append(full, 1), api.ErrSize)
	refuse(t, append(full, 1, 1), api.ErrInvalid)
	refuse(t, make([]byte, 1<<20), api.ErrSize)
	refuse(t, bytes.Repeat([]byte{1}, 1<<20), api.ErrSize)
}

func TestDecodeOfRandomBytes(t *testing.T) {
	r := rand.New(rand.NewSource(3))
	seen := map[api.Errno]int{}
	for range 200000 {
		b := make([]byte, r.Intn(16))
		for i := range b {
			b[i] = []byte{0, 1, 2, 3, 4, 5, 255, byte(r.Intn(256))}[r.Intn(8)]
		}
		if seen[expectDecode(t, b)]++; t.Failed() {
			break
		}
	}
	for range 5000 {
		c := random(r)
		if !valid(c) {
			continue
		}
		l := writings(c)
		b := l[r.Intn(len(l))]
		switch r.Intn(4) {
		case 0:
			b = b[:r.Intn(len(b)+1)]
		case 1:
			b = append(b, samples.Bytes(r.Intn(4))...)
		case 2:
			b[r.Intn(min(len(b), 8))] = byte(r.Intn(256))
		}
		if seen[expectDecode(t, b)]++; t.Failed() {
			break
		}
	}
	for _, e := range []api.Errno{api.OK, api.ErrTruncated, api.ErrSize, api.ErrInvalid} {
		if seen[e] < 1000 {
			t.Errorf("the error %d occurs %d times", e, seen[e])
		}
	}
}
