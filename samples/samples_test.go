package samples

import (
	"bytes"
	"testing"
)

func TestBytes(t *testing.T) {
	if got := Bytes(4); !bytes.Equal(got, []byte{11, 48, 85, 122}) {
		t.Error(got)
	}
}

func TestScribbleReachesTheCapacity(t *testing.T) {
	room := []byte{0, 1, 2}
	Scribble(room[:1])
	if !bytes.Equal(room, []byte{255, 254, 253}) {
		t.Error(room)
	}
}

func TestRoomy(t *testing.T) {
	b := []byte{1, 2}
	got := Roomy(b)
	if !bytes.Equal(got, b) || cap(got) < 42 || got[:3][2] == 0 {
		t.Error(got, cap(got))
	}
	if got[0] = 9; b[0] != 1 {
		t.Error("the copy shares memory")
	}
}

func TestUnhex(t *testing.T) {
	if got := Unhex("00 aB ff"); !bytes.Equal(got, []byte{0, 0xab, 0xff}) {
		t.Error(got)
	}
	defer func() {
		if recover() == nil {
			t.Error("a mistyped text does not show")
		}
	}()
	Unhex("0g")
}
