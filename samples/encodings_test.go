package samples

import (
	"bytes"
	"math/rand"
	"strings"
	"testing"

	"traveldoc/api"
)

func TestDigits(t *testing.T) {
	for _, x := range []struct {
		n, size int
		want    string
	}{{0, 1, "00"}, {10, 1, "0a"}, {255, 1, "ff"}, {10, 2, "000a"}, {258, 2, "0102"}, {1, 4, "00000001"}} {
		if got := Digits(x.n, x.size); got != x.want {
			t.Error(x, got)
		}
	}
	defer func() {
		if recover() == nil {
			t.Error("a number that is too great does not show")
		}
	}()
	Digits(256, 1)
}

func TestObject(t *testing.T) {
	if got := Object(4); got != "0400" {
		t.Error(got)
	}
	if got := Object(0x5f1f, "01 02", "03"); got != "5f1f03010203" {
		t.Error(got)
	}
	for _, x := range []struct {
		size int
		head string
	}{{127, "047f"}, {128, "048180"}, {255, "0481ff"}, {256, "04820100"}, {4092, "04820ffc"}} {
		content := strings.Repeat("ab", x.size)
		if got := Object(4, content); got != x.head+content {
			t.Error(x, got[:8])
		}
	}
}

func TestLoose(t *testing.T) {
	l := []api.Node{{Tag: 0x30, Kids: []api.Node{{Tag: 0x5f1f, Value: []byte{9}}}}}
	// Each of the six forms of the outer length, and each of the five of the inner one.
	want := map[string]bool{}
	for _, inner := range []string{"01", "8101", "820001", "83000001", "8400000001"} {
		kid := "5f1f" + inner + "09"
		size := Digits(len(kid)/2, 1)
		for _, length := range []string{size, "81" + size, "8200" + size, "830000" + size, "84000000" + size} {
			want["30"+length+kid] = true
		}
		want["3080"+kid+"0000"] = true
	}
	r := rand.New(rand.NewSource(1))
	seen := map[string]bool{}
	for range 2000 {
		b := Loose(r.Intn, l)
		found := false
		for text := range want {
			if bytes.Equal(b, Unhex(text)) {
				seen[text], found = true, true
			}
		}
		if !found {
			t.Fatalf("%x", b)
		}
	}
	if len(seen) != len(want) || len(want) != 30 {
		t.Error("some forms do not occur", len(seen), len(want))
	}
}
