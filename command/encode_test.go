package command

import (
	"bytes"
	"math/rand"
	"testing"

	"traveldoc/api"
	"traveldoc/samples"
)

// P18.1

func expectEncode(t *testing.T, c api.Command, want []byte) {
	t.Helper()
	if !Valid(c) {
		t.Errorf("%.60s is not valid", textOf(c))
	}
	if b, e := Encode(c); e != api.OK || !bytes.Equal(b, want) {
		t.Errorf("%.60s: %.20x (%d bytes) and %d, expected %.20x (%d bytes)", textOf(c), b, len(b), e, want, len(want))
	}
}

func expectInvalid(t *testing.T, name string, c api.Command) {
	t.Helper()
	if Valid(c) {
		t.Errorf("%s: %.60s is valid", name, textOf(c))
	}
	if b, e := Encode(c); e != api.ErrInvalid || b != nil {
		t.Errorf("%s: %.60s: %.20x and %d", name, textOf(c), b, e)
	}
}

func TestValidBounds(t *testing.T) {
	for _, x := range []struct {
		name string
		want map[int]bool
		set  func(c *api.Command, n int)
	}{
		{"Class", map[int]bool{-1: false, 0: true, 1: true, 0x0f: true, 0x10: true, 0x80: true, 0xef: true, 253: true, 254: true, 255: false, 256: false},
			func(c *api.Command, n int) { c.Class = n }},
		{"Instruction", map[int]bool{-1: false, 0: true, 1: true, 128: true, 254: true, 255: true, 256: false, 257: false},
			func(c *api.Command, n int) { c.Instruction = n }},
		{"P1", map[int]bool{-1: false, 0: true, 1: true, 128: true, 254: true, 255: true, 256: false, 257: false},
			func(c *api.Command, n int) { c.P1 = n }},
		{"P2", map[int]bool{-1: false, 0: true, 1: true, 128: true, 254: true, 255: true, 256: false, 257: false},
			func(c *api.Command, n int) { c.P2 = n }},
		{"Data", map[int]bool{0: true, 1: true, 255: true, 256: true, 4095: true, 4096: true, 4097: false, 4098: false, 65536: false},
			func(c *api.Command, n int) { c.Data = samples.Bytes(n) }},
		{"Expected", map[int]bool{-3: false, -2: false, -1: true, 0: false, 1: true, 2: true, 255: true, 256: true, 257: true, 65535: true, 65536: true, 65537: false},
			func(c *api.Command, n int) { c.Expected = n }},
	} {
		for n, want := range x.want {
			for _, plain := range []api.Command{{Expected: -1}, commandOf(3, 1), commandOf(300, 65536), {Class: 254, Instruction: 255, P1: 255, P2: 255, Data: samples.Bytes(4096), Expected: 65536}} {
				c := with(plain, func(c *api.Command) { x.set(c, n) })
				if got := Valid(c); got != want {
					t.Errorf("%s %d: %v", x.name, n, got)
				}
				if b, e := Encode(c); (e == api.OK) != want || (b != nil) != want || e != api.OK && e != api.ErrInvalid {
					t.Errorf("%s %d: %.20x and %d", x.name, n, b, e)
				}
			}
		}
	}
	// The zero value is no command, because it expects nothing in particular.
	expectInvalid(t, "zero", api.Command{})
}

// Each class, instruction and parameter that is a byte, and those around.
func TestValidOfEachNumber(t *testing.T) {
	for n := -300; n <= 600; n++ {
		for i, c := range []api.Command{
			{Class: n, Expected: -1}, {Instruction: n, Expected: -1}, {P1: n, Expected: -1}, {P2: n, Expected: -1}, {Expected: n},
		} {
			if Valid(c) != valid(c) {
				t.Error(i, n)
			}
		}
	}
}

func TestEachDefectIsInvalid(t *testing.T) {
	l := defects()
	for _, plain := range []api.Command{{Expected: -1}, commandOf(0, 256), commandOf(5, -1), commandOf(5, 7), commandOf(256, 257)} {
		for _, d := range l {
			expectInvalid(t, d.name, with(plain, d.make))
		}
	}
	// Several of them, which do not hide each other.
	r := rand.New(rand.NewSource(1))
	for range 2000 {
		c := commandOf(r.Intn(300), 1+r.Intn(300))
		name := ""
		for range 2 + r.Intn(4) {
			d := l[r.Intn(len(l))]
			d.make(&c)
			name += d.name + " "
		}
		expectInvalid(t, name, c)
	}
}

// The bytes were written by hand.
func TestEncodeAsBytes(t *testing.T) {
	for _, x := range []struct {
		c    api.Command
		want string
	}{
		{api.Command{Expected: -1}, "00000000"},
		{api.Command{Class: 254, Instruction: 255, P1: 255, P2: 255, Expected: -1}, "feffffff"},
		{api.Command{Class: 1, Instruction: 2, P1: 3, P2: 4, Expected: -1}, "01020304"},
		{api.Command{Class: 1, Instruction: 2, P1: 3, P2: 4, Expected: 1}, "01020304 01"},
		{api.Command{Class: 1, Instruction: 2, P1: 3, P2: 4, Expected: 8}, "01020304 08"},
		{api.Command{Class: 1, Instruction: 2, P1: 3, P2: 4, Expected: 255}, "01020304 ff"},
		{api.Command{Class: 1, Instruction: 2, P1: 3, P2: 4, Expected: 256}, "01020304 00"},
		{api.Command{Class: 1, Instruction: 2, P1: 3, P2: 4, Expected: 257}, "01020304 00 0101"},
		{api.Command{Class: 1, Instruction: 2, P1: 3, P2: 4, Expected: 512}, "01020304 00 0200"},
		{api.Command{Class: 1, Instruction: 2, P1: 3, P2: 4, Expected: 65535}, "01020304 00 ffff"},
		{api.Command{Class: 1, Instruction: 2, P1: 3, P2: 4, Expected: 65536}, "01020304 00 0000"},
		{api.Command{Class: 1, Instruction: 2, P1: 3, P2: 4, Data: []byte{9}, Expected: -1}, "01020304 01 09"},
		{api.Command{Class: 1, Instruction: 2, P1: 3, P2: 4, Data: []byte{0}, Expected: -1}, "01020304 01 00"},
		{api.Command{Class: 1, Instruction: 2, P1: 3, P2: 4, Data: []byte{9, 8, 7}, Expected: 6}, "01020304 03 090807 06"},
		{api.Command{Class: 1, Instruction: 2, P1: 3, P2: 4, Data: []byte{9, 8, 7}, Expected: 256}, "01020304 03 090807 00"},
		{api.Command{Class: 1, Instruction: 2, P1: 3, P2: 4, Data: []byte{9, 8, 7}, Expected: 257}, "01020304 00 0003 090807 0101"},
		{api.Command{Class: 1, Instruction: 2, P1: 3, P2: 4, Data: []byte{9, 8, 7}, Expected: 65536}, "01020304 00 0003 090807 0000"},
	} {
		expectEncode(t, x.c, samples.Unhex(x.want))
	}
}

// The bytes ahead of Data and behind them, at the bounds between short and extended lengths.
func TestEncodeOfLongData(t *testing.T) {
	for _, x := range []struct {
		size, expected int
		ahead, behind  string
	}{
		{254, -1, "fe", ""}, {254, 256, "fe", "00"}, {254, 257, "0000fe", "0101"},
		{255, -1, "ff", ""}, {255, 1, "ff", "01"}, {255, 255, "ff", "ff"}, {255, 256, "ff", "00"},
		{255, 257, "0000ff", "0101"}, {255, 65536, "0000ff", "0000"},
		{256, -1, "000100", ""}, {256, 1, "000100", "0001"}, {256, 255, "000100", "00ff"}, {256, 256, "000100", "0100"},
		{256, 257, "000100", "0101"}, {256, 65535, "000100", "ffff"}, {256, 65536, "000100", "0000"},
		{257, -1, "000101", ""}, {4095, 3, "000fff", "0003"},
		{4096, -1, "001000", ""}, {4096, 1, "001000", "0001"}, {4096, 65536, "001000", "0000"},
	} {
		want := append(samples.Unhex("0cb08102"+x.ahead), samples.Bytes(x.size)...)
		expectEncode(t, commandOf(x.size, x.expected), append(want, samples.Unhex(x.behind)...))
	}
}

// Each permitted size with each Expected at a bound, and each Expected with some sizes.
func TestEncodeAsDefined(t *testing.T) {
	for size := range 4097 {
		for _, expected := range []int{-1, 1, 256, 257, 65536} {
			if c := commandOf(size, expected); size < 600 || expected == -1 {
				expectEncode(t, c, writings(c)[0])
			}
		}
	}
	for _, size := range sizes() {
		for _, expected := range expecteds() {
			c := commandOf(size, expected)
			expectEncode(t, c, writings(c)[0])
		}
	}
	for expected := 1; expected <= 65536; expected++ {
		c := commandOf(1, expected)
		expectEncode(t, c, writings(c)[0])
		if t.Failed() {
			break
		}
	}
}

func TestEncodeOfRandomCommands(t *testing.T) {
	r := rand.New(rand.NewSource(2))
	seen := map[bool]int{}
	for range 20000 {
		c := random(r)
		ok := valid(c)
		if seen[ok]++; ok {
			expectEncode(t, c, writings(c)[0])
		} else {
			expectInvalid(t, "random", c)
		}
		if t.Failed() {
			break
		}
	}
	if seen[true] < 1000 || seen[false] < 1000 {
		t.Error(seen)
	}
}

// Short lengths are used as long as they do, and extended ones as soon as one of both wants them.
func TestEncodeHasShortLengthsAsLongAsTheyDo(t *testing.T) {
	for _, size := range sizes() {
		for _, expected := range expecteds() {
			b, _ := Encode(commandOf(size, expected))
			rest := len(b) - 4 - size
			want := 0
			if size > 0 {
				want++
			}
			if expected > 0 {
				want++
			}
			if size > 255 || expected > 256 {
				want = 2*want + 1
			}
			if rest != want {
				t.Errorf("%d bytes of Data, Expected %d: %d bytes of lengths", size, expected, rest)
			}
		}
	}
}
