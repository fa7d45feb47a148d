package derive

import (
	"bytes"
	"encoding/hex"
	"math"
	"testing"

	"traveldoc/api"
	"traveldoc/samples"
)

// P7.1

// The literals of this file are made with SHA-256 of another language's library.
func TestKeyLiterals(t *testing.T) {
	for _, x := range []struct {
		secret []byte
		use    int
		want   string
	}{
		{nil, 0, "df3f619804a92fdb4057192dc43dd748"},
		{nil, 1, "b40711a88c7039756fb8a73827eabe2c"},
		{nil, 65535, "b7d1b3a1104cc86b1cea310793cf7770"},
		{[]byte("abc"), 0, "cf2db1ac9867debdf8ce91f99f141e55"},
		{[]byte("abc"), 1, "46c386ebccef82ba0bb0b095aaa5548b"},
		{[]byte("abc"), 2, "f885d324a47d2145a3d8392c37978d7d"},
		{[]byte("abc"), 255, "1e77a10bd700297f58cff385ce9fd988"},
		{[]byte("abc"), 256, "f26814764691130cc400c0f0fdd3b3e1"},
		{[]byte("abc"), 65535, "343c393ea58c73d67e11b172427e348a"},
		{make([]byte, 16), 1, "e9ff0e6e6de95da56ff09f4e3e0f481d"},
		{make([]byte, 16), 2, "318b8f30815253bcae6eef8ff3dbd52e"},
	} {
		if got, e := Key(x.secret, x.use); hex.EncodeToString(got) != x.want || e != api.OK {
			t.Errorf("Key(%x, %d) = %x, %d, want %s", x.secret, x.use, got, e, x.want)
		}
	}
}

func TestKeyOfEachUse(t *testing.T) {
	secret := samples.Bytes(16)
	for use := range 65536 {
		if got, e := Key(secret, use); !bytes.Equal(got, definedKey(secret, use)) || e != api.OK {
			t.Fatalf("Key(%x, %d) = %x, %d", secret, use, got, e)
		}
	}
}

func TestKeyOfEachLength(t *testing.T) {
	for _, secret := range secrets() {
		for _, use := range []int{0, 1, 2, 3, 127, 128, 255, 256, 257, 0x1234, 32767, 32768, 65534, 65535} {
			if got, e := Key(secret, use); !bytes.Equal(got, definedKey(secret, use)) || e != api.OK {
				t.Errorf("Key of %d bytes with the use %d is %x, %d", len(secret), use, got, e)
			}
		}
	}
}

func TestKeyRefusesUses(t *testing.T) {
	for _, use := range []int{-1, -2, -65536, 65536, 65537, 1 << 17, 1 << 31, 1 << 32, 1<<32 + 1, -1 << 32, math.MinInt, math.MaxInt} {
		for _, secret := range [][]byte{nil, {}, samples.Bytes(16)} {
			if got, e := Key(secret, use); len(got) != 0 || e != api.ErrRange {
				t.Errorf("Key(%x, %d) = %x, %d, want ErrRange", secret, use, got, e)
			}
		}
	}
}

// P7.2

func TestDrawLiterals(t *testing.T) {
	for _, x := range []struct {
		seed      []byte
		out, next string
	}{
		{nil, "957b88b12730e646e0f33d3618b77dfa579e8231e3c59c7104be7165611c8027a1cb20470d89874f33383802c72d3c27a0668ebffd81934705ab0cfcbf1a1e3a06dabc1c16aa",
			"6e340b9cffb37a989ca544e6bb780a2c78901d3fb33738768511a30617afa01d"},
		{[]byte("abc"), "1f5a661528b42521ec60f7e97602e8c3b0dda76e3787158d2e08ce341ec89d9ec56ec31f20bb7491b039f492a52310c59a7a7d22e49d59e7d4e63aa4a153067433c4105568be",
			"dc1114cd074914bd872cc1f9a23ec910ea2203bc79779ab2e17da25782a624fc"},
		{make([]byte, 32), "017c33f494ff0030db7f86057d8a6776981ff92befc513e30d772800309d2d1f1c79ab3d0f39c72a2ee2db3a9e2f49dd6ee00e3d3eb3c61bb47bb341e641d65e59f439d2be56",
			"7f9c9e31ac8256ca2f258583df262dbc7d6f68f2a03043d5c99a4ae5a7396ce9"},
	} {
		out, next, e := Draw(x.seed, 70)
		if hex.EncodeToString(out) != x.out || hex.EncodeToString(next) != x.next || e != api.OK {
			t.Errorf("Draw(%x, 70) = %x, %x, %d, want %s, %s", x.seed, out, next, e, x.out, x.next)
		}
	}
}

func checkDraw(t *testing.T, seed []byte, n int) {
	t.Helper()
	wantOut, wantNext := definedDraw(seed, n)
	out, next, e := Draw(seed, n)
	if !bytes.Equal(out, wantOut) || !bytes.Equal(next, wantNext) || e != api.OK {
		t.Fatalf("Draw(%x, %d) = %x, %x, %d, want %x, %x", seed, n, out, next, e, wantOut, wantNext)
	}
}

func TestDrawOfEachNumber(t *testing.T) {
	for n := range 1025 {
		checkDraw(t, samples.Bytes(32), n)
	}
}

func TestDrawFromEachLength(t *testing.T) {
	for _, seed := range secrets() {
		for _, n := range sizes() {
			checkDraw(t, seed, n)
		}
	}
}

func TestDrawRefusesNumbers(t *testing.T) {
	for _, n := range []int{-1, -2, -1024, 1025, 1026, 1056, 4096, 1 << 31, 1 << 32, 1<<32 + 8, 1 << 40, math.MinInt, math.MaxInt} {
		for _, seed := range [][]byte{nil, {}, samples.Bytes(32)} {
			if out, next, e := Draw(seed, n); len(out) != 0 || len(next) != 0 || e != api.ErrSize {
				t.Errorf("Draw(%x, %d) = %x, %x, %d, want ErrSize", seed, n, out, next, e)
			}
		}
	}
}

// Seeds follow each other, so that what is drawn one after the other differs.
func TestDrawsOneAfterTheOther(t *testing.T) {
	seed, seen := []byte{}, map[string]bool{}
	for range 200 {
		out, next, e := Draw(seed, 8)
		if e != api.OK || seen[string(out)] || seen[string(next)] {
			t.Fatalf("Draw(%x, 8) = %x, %x, %d", seed, out, next, e)
		}
		checkDraw(t, seed, 8)
		seen[string(out)], seen[string(next)] = true, true
		seed = next
	}
}

// P7.3

func TestSecretLiterals(t *testing.T) {
	for _, x := range []struct {
		seed []byte
		n    int
		next string
	}{
		{nil, 87862775, "6e340b9cffb37a989ca544e6bb780a2c78901d3fb33738768511a30617afa01d"},
		{[]byte("abc"), 650874246, "dc1114cd074914bd872cc1f9a23ec910ea2203bc79779ab2e17da25782a624fc"},
		{make([]byte, 32), 896195613, "7f9c9e31ac8256ca2f258583df262dbc7d6f68f2a03043d5c99a4ae5a7396ce9"},
	} {
		if n, next := Secret(x.seed); n != x.n || hex.EncodeToString(next) != x.next {
			t.Errorf("Secret(%x) = %d, %x, want %d, %s", x.seed, n, next, x.n, x.next)
		}
	}
}

// These seeds were found by trying some thousands of millions of them.
func TestLeastAndGreatestSecret(t *testing.T) {
	for _, x := range []struct {
		seed string
		want int
	}{
		{"000000005952149f", 1},
		{"000000006e54f27c", 1},
		{"000000000def6c5f", 1},
		{"0000000076ced16a", api.GroupOrder - 1},
		{"000000008f56881f", api.GroupOrder - 1},
		{"00000000cb018fc1", api.GroupOrder - 1},
	} {
		if n, _ := Secret(samples.Unhex(x.seed)); n != x.want {
			t.Errorf("Secret(%s) = %d, want %d", x.seed, n, x.want)
		}
	}
}

func TestSecret(t *testing.T) {
	seeds := secrets()
	for i := range 2000 {
		seeds = append(seeds, []byte{byte(i >> 8), byte(i)})
	}
	for _, seed := range seeds {
		want, wantNext := definedSecret(seed)
		if n, next := Secret(seed); n != want || !bytes.Equal(next, wantNext) {
			t.Fatalf("Secret(%x) = %d, %x, want %d, %x", seed, n, next, want, wantNext)
		}
	}
}
