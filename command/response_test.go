package command

import (
	"bytes"
	"math/rand"
	"testing"

	"traveldoc/api"
	"traveldoc/samples"
)

// P18.3

// statuses are permitted values of Status, at the bounds of its bytes.
func statuses() []int {
	return []int{0, 1, 127, 128, 255, 256, 257, 0x6282, 0x63cf, 0x6987, 0x9000, 32767, 32768, 65279, 65280, 65534, 65535}
}

func expectResponse(t *testing.T, r api.Response, want []byte) {
	t.Helper()
	if b, e := EncodeResponse(r); e != api.OK || !bytes.Equal(b, want) {
		t.Errorf("%.20x, %d: %.20x (%d bytes) and %d, expected %.20x (%d bytes)", r.Data, r.Status, b, len(b), e, want, len(want))
	}
	if back, e := DecodeResponse(want); e != api.OK || back.Status != r.Status || !bytes.Equal(back.Data, r.Data) {
		t.Errorf("%.20x (%d bytes): %.20x, %d and %d", want, len(want), back.Data, back.Status, e)
	}
}

func refuseResponse(t *testing.T, r api.Response, want api.Errno) {
	t.Helper()
	if b, e := EncodeResponse(r); e != want || b != nil {
		t.Errorf("%d bytes, %d: %.20x and %d, expected %d", len(r.Data), r.Status, b, e, want)
	}
}

func refuseResponseBytes(t *testing.T, b []byte, want api.Errno) {
	t.Helper()
	if r, e := DecodeResponse(b); e != want || r.Data != nil || r.Status != 0 {
		t.Errorf("%.20x (%d bytes): %.20x, %d and %d, expected %d", b, len(b), r.Data, r.Status, e, want)
	}
}

// The bytes were written by hand.
func TestResponsesAsBytes(t *testing.T) {
	for _, x := range []struct {
		data   string
		status int
		want   string
	}{
		{"", 0, "0000"}, {"", 1, "0001"}, {"", 255, "00ff"}, {"", 256, "0100"}, {"", 0x9000, "9000"}, {"", 65535, "ffff"},
		{"00", 0x9000, "00 9000"}, {"07", 0x6282, "07 6282"}, {"9000", 0x6300, "9000 6300"}, {"01020304", 0x63c2, "01020304 63c2"},
	} {
		expectResponse(t, api.Response{Data: samples.Unhex(x.data), Status: x.status}, samples.Unhex(x.want))
	}
}

func TestEachStatus(t *testing.T) {
	for status := range 65536 {
		expectResponse(t, api.Response{Status: status}, []byte{byte(status / 256), byte(status % 256)})
	}
	for _, status := range statuses() {
		for _, size := range append(sizes(), 3000) {
			b := samples.Bytes(size)
			want := append(bytes.Clone(b), byte(status/256), byte(status%256))
			expectResponse(t, api.Response{Data: b, Status: status}, want)
		}
	}
}

// wrong are values of Status that are not permitted, some of which have the last two bytes of one that is.
func wrong() []int {
	return []int{-1, -2, -256, -65535, -65536, -1 << 32, -1 << 63, 65536, 65537, 65536 + 0x9000, 131071, 1 << 24, 1 << 32, 1<<32 + 0x9000, 1 << 48, 1<<63 - 1}
}

func TestResponsesThatAreRefused(t *testing.T) {
	for _, status := range wrong() {
		for _, size := range []int{0, 1, 255, 4095, 4096} {
			refuseResponse(t, api.Response{Data: samples.Bytes(size), Status: status}, api.ErrRange)
		}
	}
	// The size comes ahead of the status.
	for _, size := range []int{4097, 4098, 8192, 65536} {
		for _, status := range append(wrong(), statuses()...) {
			refuseResponse(t, api.Response{Data: samples.Bytes(size), Status: status}, api.ErrSize)
		}
	}
}

func TestDecodeResponseOfEachNumberOfBytes(t *testing.T) {
	refuseResponseBytes(t, nil, api.ErrTruncated)
	for size := range 4110 {
		b := samples.Bytes(size)
		switch {
		case size < 2:
			refuseResponseBytes(t, b, api.ErrTruncated)
		case size > 4098:
			refuseResponseBytes(t, b, api.ErrSize)
		default:
			expectResponse(t, api.Response{Data: b[:size-2], Status: int(b[size-2])*256 + int(b[size-1])}, b)
		}
	}
	refuseResponseBytes(t, make([]byte, 8192), api.ErrSize)
	refuseResponseBytes(t, make([]byte, 1<<20), api.ErrSize)
	refuseResponseBytes(t, []byte{0x90}, api.ErrTruncated)
}

func TestRandomResponses(t *testing.T) {
	r := rand.New(rand.NewSource(4))
	for range 5000 {
		b := make([]byte, 2+r.Intn(40))
		r.Read(b)
		n := len(b) - 2
		expectResponse(t, api.Response{Data: b[:n], Status: int(b[n])<<8 + int(b[n+1])}, b)
	}
}
