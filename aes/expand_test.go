package aes

import (
	"bytes"
	"encoding/hex"
	"math/rand"
	"slices"
	"strings"
	"testing"

	"traveldoc/api"
	"traveldoc/samples"
)

// constants are the round constants of 1 to 10.
func constants() []int {
	return []int{0x01, 0x02, 0x04, 0x08, 0x10, 0x20, 0x40, 0x80, 0x1b, 0x36}
}

// expanded is the document's definition, word by word, as the bytes of all keys.
func expanded(t *testing.T, key []byte) []byte {
	t.Helper()
	substitutes := samples.Unhex(published)
	var words [44][4]byte
	for i := range words {
		if i < 4 {
			copy(words[i][:], key[4*i:])
			continue
		}
		word := words[i-1]
		if i%4 == 0 {
			word = [4]byte{word[1], word[2], word[3], word[0]}
			for j := range word {
				word[j] = substitutes[word[j]]
			}
			word[0] ^= byte(constants()[i/4-1])
		}
		for j := range word {
			words[i][j] = words[i-4][j] ^ word[j]
		}
	}
	var out []byte
	for _, word := range words {
		out = append(out, word[:]...)
	}
	return out
}

// checkExpand compares the keys with the definition.
func checkExpand(t *testing.T, key []byte) {
	t.Helper()
	keys, e := Expand(key)
	if e != api.OK || len(keys) != 11 {
		t.Fatalf("Expand(%x) returns %d keys, %d", key, len(keys), e)
	}
	for i := range keys {
		if len(keys[i]) != 16 {
			t.Fatalf("the key %d of Expand(%x) has %d bytes", i, key, len(keys[i]))
		}
	}
	if got, want := bytes.Join(keys, nil), expanded(t, key); !bytes.Equal(got, want) {
		t.Fatalf("Expand(%x) = %x, want %x", key, got, want)
	}
}

// P5.2

func TestExpandOfPublishedKeys(t *testing.T) {
	for _, x := range []struct {
		key  string
		want []string
	}{
		{"2b7e151628aed2a6abf7158809cf4f3c", []string{
			"2b7e151628aed2a6abf7158809cf4f3c", "a0fafe1788542cb123a339392a6c7605", "f2c295f27a96b9435935807a7359f67f",
			"3d80477d4716fe3e1e237e446d7a883b", "ef44a541a8525b7fb671253bdb0bad00", "d4d1c6f87c839d87caf2b8bc11f915bc",
			"6d88a37a110b3efddbf98641ca0093fd", "4e54f70e5f5fc9f384a64fb24ea6dc4f", "ead27321b58dbad2312bf5607f8d292f",
			"ac7766f319fadc2128d12941575c006e", "d014f9a8c9ee2589e13f0cc8b6630ca6",
		}},
		{"000102030405060708090a0b0c0d0e0f", []string{
			"000102030405060708090a0b0c0d0e0f", "d6aa74fdd2af72fadaa678f1d6ab76fe", "b692cf0b643dbdf1be9bc5006830b3fe",
			"b6ff744ed2c2c9bf6c590cbf0469bf41", "47f7f7bc95353e03f96c32bcfd058dfd", "3caaa3e8a99f9deb50f3af57adf622aa",
			"5e390f7df7a69296a7553dc10aa31f6b", "14f9701ae35fe28c440adf4d4ea9c026", "47438735a41c65b9e016baf4aebf7ad2",
			"549932d1f08557681093ed9cbe2c974e", "13111d7fe3944a17f307a78b4d2b30c5",
		}},
	} {
		keys, e := Expand(samples.Unhex(x.key))
		var got []string
		for _, key := range keys {
			got = append(got, hex.EncodeToString(key))
		}
		if !slices.Equal(got, x.want) || e != api.OK {
			t.Errorf("Expand of %s is %v, %d", x.key, got, e)
		}
	}
}

func TestExpandOfEqualWords(t *testing.T) {
	keys, e := Expand(make([]byte, 16))
	if e != api.OK || len(keys) != 11 {
		t.Fatal(len(keys), e)
	}
	for i, want := range []string{strings.Repeat("00", 16), strings.Repeat("62636363", 4), strings.Repeat("9b9898c9f9fbfbaa", 2)} {
		if got := hex.EncodeToString(keys[i]); got != want {
			t.Errorf("the key %d is %s, want %s", i, got, want)
		}
	}
	if got := hex.EncodeToString(keys[10]); got != "b4ef5bcb3e92e21123e951cf6f8f188e" {
		t.Errorf("the last key is %s", got)
	}
}

func TestExpandBeginsWithTheKey(t *testing.T) {
	keys, e := Expand(samples.Bytes(16))
	if len(keys) != 11 || !bytes.Equal(keys[0], samples.Bytes(16)) || e != api.OK {
		t.Errorf("Expand returns %x, %d", keys, e)
	}
}

func TestExpandOfManyKeys(t *testing.T) {
	for x := range 256 {
		checkExpand(t, bytes.Repeat([]byte{byte(x)}, 16))
	}
	for bit := range 128 {
		key := make([]byte, 16)
		key[bit/8] = 0x80 >> (bit % 8)
		checkExpand(t, key)
	}
	r := rand.New(rand.NewSource(5))
	for range 1000 {
		key := make([]byte, 16)
		r.Read(key)
		checkExpand(t, key)
	}
}

func TestExpandRefusesOtherSizes(t *testing.T) {
	sizes := []int{128, 176, 192, 256, 1<<8 + 16, 4096, 1<<16 + 16}
	for size := range 70 {
		sizes = append(sizes, size)
	}
	for _, size := range sizes {
		want, count := api.ErrSize, 0
		if size == 16 {
			want, count = api.OK, 11
		}
		if keys, e := Expand(samples.Bytes(size)); e != want || len(keys) != count {
			t.Errorf("Expand of %d bytes returns %d keys, %d, want %d", size, len(keys), e, want)
		}
	}
	if keys, e := Expand(nil); e != api.ErrSize || len(keys) != 0 {
		t.Errorf("Expand(nil) returns %x, %d", keys, e)
	}
}

func TestExpandLooksAtTheLengthAndNotAtTheCapacity(t *testing.T) {
	whole := samples.Bytes(64)
	for _, size := range []int{0, 15, 17} {
		if keys, e := Expand(whole[:size]); e != api.ErrSize || len(keys) != 0 {
			t.Errorf("Expand of %d bytes returns %x, %d", size, keys, e)
		}
	}
	checkExpand(t, whole[:16])
	checkExpand(t, whole[9:25])
}
