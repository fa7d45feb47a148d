package modes

import (
	"bytes"
	"testing"

	"traveldoc/api"
	"traveldoc/samples"
)

// P6.1

func TestPad(t *testing.T) {
	for n := range 130 {
		for _, b := range [][]byte{samples.Bytes(n), make([]byte, n)} {
			got := Pad(b)
			zeros := len(got) - n - 1
			if len(got)%16 != 0 || zeros < 0 || zeros > 15 {
				t.Fatalf("Pad of %d bytes has %d", n, len(got))
			}
			want := append(bytes.Clone(b), 0x80)
			want = append(want, make([]byte, zeros)...)
			if !bytes.Equal(got, want) {
				t.Fatalf("Pad(%x) = %x, want %x", b, got, want)
			}
		}
	}
}

func TestPadAtTheEdges(t *testing.T) {
	for _, x := range []struct {
		n    int
		want string
	}{
		{0, "80000000000000000000000000000000"},
		{1, "0b800000000000000000000000000000"},
		{15, "0b30557a9fc4e90e33587da2c7ec1180"},
		{16, "0b30557a9fc4e90e33587da2c7ec1136" + "80000000000000000000000000000000"},
		{17, "0b30557a9fc4e90e33587da2c7ec1136" + "5b800000000000000000000000000000"},
	} {
		if got := Pad(samples.Bytes(x.n)); !bytes.Equal(got, samples.Unhex(x.want)) {
			t.Errorf("Pad of %d bytes is %x, want %s", x.n, got, x.want)
		}
	}
}

// ends returns whole blocks that end in last and then in zeros, with bytes before them that would not be padding.
func ends(size int, last byte, zeros int) []byte {
	b := bytes.Repeat([]byte{0x7f}, size)
	b[size-zeros-1] = last
	clear(b[size-zeros:])
	return b
}

func TestUnpad(t *testing.T) {
	for _, size := range []int{16, 32, 48, 64} {
		for zeros := range size {
			b := ends(size, 0x80, zeros)
			got, e := Unpad(b)
			if zeros <= 15 && (!bytes.Equal(got, b[:size-zeros-1]) || e != api.OK) {
				t.Errorf("Unpad(%x) = %x, %d", b, got, e)
			}
			if zeros > 15 && (len(got) != 0 || e != api.ErrPadding) {
				t.Errorf("Unpad(%x) = %x, %d, want ErrPadding: %d bytes 0", b, got, e, zeros)
			}
		}
	}
}

// Only the padding at the end is taken away, and only once.
func TestUnpadLeavesWhatStandsBefore(t *testing.T) {
	for _, x := range []struct{ b, want string }{
		{"80808080808080808080808080808080", "808080808080808080808080808080"},
		{"00000000000000000000000000000080", "000000000000000000000000000000"},
		{"80000000000000000000000000000000", ""},
		{"80800000000000000000000000000000", "80"},
		{"00800000000000000000000000000000", "00"},
		{"80000000000000000000000000008000", "8000000000000000000000000000"},
		{"01020304050607080800000000000000" + "80000000000000000000000000000000", "01020304050607080800000000000000"},
		{"80000000000000000000000000000000" + "80000000000000000000000000000000", "80000000000000000000000000000000"},
	} {
		if got := unpaddedOf(t, samples.Unhex(x.b)); !bytes.Equal(got, samples.Unhex(x.want)) {
			t.Errorf("Unpad(%s) = %x, want %s", x.b, got, x.want)
		}
	}
}

func TestUnpadWithoutTheFirstByteOfThePadding(t *testing.T) {
	for last := range 256 {
		for zeros := range 16 {
			b := ends(32, byte(last), zeros)
			got, e := Unpad(b)
			switch {
			case last == 0x80:
				if !bytes.Equal(got, b[:31-zeros]) || e != api.OK {
					t.Errorf("Unpad(%x) = %x, %d", b, got, e)
				}
			case len(got) != 0 || e != api.ErrPadding:
				t.Errorf("Unpad(%x) = %x, %d, want ErrPadding", b, got, e)
			}
		}
	}
	for blocks := 1; blocks < 5; blocks++ {
		if got, e := Unpad(make([]byte, 16*blocks)); len(got) != 0 || e != api.ErrPadding {
			t.Errorf("Unpad of %d blocks of bytes 0 returns %x, %d, want ErrPadding", blocks, got, e)
		}
	}
}

// The byte 0x80 may stand in the first place of the last block, but not in the block before, even if it is the last byte there.
func TestUnpadLooksAtTheLastBlock(t *testing.T) {
	for _, size := range []int{32, 48, 64} {
		b := ends(size, 0x80, 16)
		if got, e := Unpad(b); len(got) != 0 || e != api.ErrPadding {
			t.Errorf("Unpad(%x) = %x, %d, want ErrPadding", b, got, e)
		}
		b = ends(size, 0x80, 15)
		if got, e := Unpad(b); !bytes.Equal(got, b[:size-16]) || e != api.OK {
			t.Errorf("Unpad(%x) = %x, %d", b, got, e)
		}
	}
}

// A wrong size is named before a wrong padding.
func TestUnpadOfWrongSizes(t *testing.T) {
	for n := range 100 {
		if n > 0 && n%16 == 0 {
			continue
		}
		right := samples.Bytes(n)
		if n > 0 {
			right[n-1] = 0x80
		}
		for _, b := range [][]byte{right, samples.Bytes(n), make([]byte, n)} {
			if got, e := Unpad(b); len(got) != 0 || e != api.ErrSize {
				t.Errorf("Unpad(%x) = %x, %d, want ErrSize", b, got, e)
			}
		}
	}
}
