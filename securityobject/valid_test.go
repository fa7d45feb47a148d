package securityobject

import (
	"bytes"
	"math/rand"
	"slices"
	"testing"

	"traveldoc/api"
	"traveldoc/samples"
)

// P16.1

// defect is a change that a security object with the groups 2, 5 and 9 does not survive, with its error.
type defect struct {
	name string
	make func(s *api.Security)
	want api.Errno
}

// defectsOfSigned are those that the message has, too, in the order of their errors. Each set of them can be made together.
func defectsOfSigned() []defect {
	return []defect{
		{"version", func(s *api.Security) { s.Version = 2 }, api.ErrRange},
		{"number of hashes", func(s *api.Security) {
			for len(s.Hashes) < 17 {
				s.Hashes = append(s.Hashes, hashOf(10+len(s.Hashes)))
			}
		}, api.ErrSize},
		{"group of the first hash", func(s *api.Security) { s.Hashes[0].Group = 0 }, api.ErrRange},
		{"size of the first hash", func(s *api.Security) { s.Hashes[0].Hash = samples.Bytes(31) }, api.ErrSize},
		{"group of the second hash", func(s *api.Security) { s.Hashes[1].Group = -1 }, api.ErrRange},
		{"order of the second hash", func(s *api.Security) { s.Hashes[1].Group = min(2, s.Hashes[1].Group) }, api.ErrOrder},
		{"size of the second hash", func(s *api.Security) { s.Hashes[1].Hash = samples.Bytes(33) }, api.ErrSize},
		{"group of the third hash", func(s *api.Security) { s.Hashes[2].Group = 17 }, api.ErrRange},
		{"size of the third hash", func(s *api.Security) { s.Hashes[2].Hash = nil }, api.ErrSize},
	}
}

func defectsOfOthers() []defect {
	return []defect{
		{"certificate", func(s *api.Security) { s.Certificate = samples.Bytes(1025) }, api.ErrSize},
		{"E", func(s *api.Security) { s.Signature.E = order }, api.ErrSignature},
		{"S", func(s *api.Security) { s.Signature.S = -1 }, api.ErrSignature},
	}
}

func valid(t *testing.T, name string, s api.Security, want api.Errno) {
	t.Helper()
	if definedValid(s) != want {
		t.Errorf("%s: the definitions say %d, not %d", name, definedValid(s), want)
	}
	if e := Valid(s); e != want {
		t.Errorf("%s, %x: %d, not %d", name, s, e, want)
	}
	if b, e := Encode(s); e != want || (len(b) == 0) != (e != api.OK) {
		t.Errorf("%s, %x: Encode returns %x and %d, not %d", name, s, b, e, want)
	}
	if l, e := Differ(s, nil); e != want || len(l) != 0 {
		t.Errorf("%s, %x: Differ returns %v and %d, not %d", name, s, l, e, want)
	}
	wanted := firstOf(definedSigned(s))
	b, e := Message(s)
	if e != wanted || (len(b) == 0) != (e != api.OK) {
		t.Errorf("%s, %x: Message returns %x and %d, not %d", name, s, b, e, wanted)
	}
	if e == api.OK && !bytes.Equal(b, samples.Unhex(messageText(s))) {
		t.Errorf("%s, %x: Message returns %x", name, s, b)
	}
}

func TestValid(t *testing.T) {
	for _, s := range []api.Security{securityOf(1), securityOf(16), securityOf(1, 16), securityOf(2, 5, 9), securityOf(15, 16), full()} {
		valid(t, "ordinary", s, api.OK)
		for _, version := range []int{0, 1} {
			valid(t, "a version", with(s, func(s *api.Security) { s.Version = version }), api.OK)
		}
		for _, version := range append([]int{2, 3, 127, 255, 256, 257}, far...) {
			valid(t, "another version", with(s, func(s *api.Security) { s.Version = version }), api.ErrRange)
		}
	}
	valid(t, "the zero value", api.Security{}, api.ErrSize)
}

func TestValidOfNumbersOfHashes(t *testing.T) {
	for n := range 40 {
		want := api.OK
		if n == 0 || n > 16 {
			want = api.ErrSize
		}
		valid(t, "a number of hashes", securityOf(upTo(n)...), want)
	}
	// The number comes ahead of the hashes.
	valid(t, "many zero hashes", with(full(), func(s *api.Security) { s.Hashes = make([]api.GroupHash, 5000) }), api.ErrSize)
	valid(t, "17 zero hashes", with(full(), func(s *api.Security) { s.Hashes = make([]api.GroupHash, 17) }), api.ErrSize)
	valid(t, "16 zero hashes", with(full(), func(s *api.Security) { s.Hashes = make([]api.GroupHash, 16) }), api.ErrRange)
	valid(t, "no hash", with(full(), func(s *api.Security) { s.Hashes = []api.GroupHash{} }), api.ErrSize)
}

func TestValidOfGroups(t *testing.T) {
	for group := -20; group < 300; group++ {
		want := api.ErrRange
		if group >= 1 && group <= 16 {
			want = api.OK
		}
		s := with(securityOf(1), func(s *api.Security) { s.Hashes[0].Group = group })
		valid(t, "a group alone", s, want)
	}
	for _, group := range far {
		for at := range 16 {
			valid(t, "a far group", with(full(), func(s *api.Security) { s.Hashes[at].Group = group }), api.ErrRange)
		}
	}
	// All pairs.
	for first := range 19 {
		for second := range 19 {
			want := api.OK
			switch {
			case first == 0, first > 16, second == 0, second > 16:
				want = api.ErrRange
			case second <= first:
				want = api.ErrOrder
			}
			valid(t, "two groups", securityOf(first, second), want)
		}
	}
	// The order is that of neighbours.
	valid(t, "descending", securityOf(3, 2, 1), api.ErrOrder)
	valid(t, "the same behind another one", securityOf(1, 5, 1), api.ErrOrder)
	valid(t, "descending at the end", securityOf(1, 2, 3, 16, 15), api.ErrOrder)
	for at := 1; at < 16; at++ {
		valid(t, "the one before again", with(full(), func(s *api.Security) { s.Hashes[at].Group = at }), api.ErrOrder)
		valid(t, "exchanged", with(full(), func(s *api.Security) { s.Hashes[at], s.Hashes[at-1] = s.Hashes[at-1], s.Hashes[at] }), api.ErrOrder)
		valid(t, "greater than the next one", with(full(), func(s *api.Security) { s.Hashes[at-1].Group = 16 }), api.ErrOrder)
	}
	valid(t, "out of range, and not greater", securityOf(5, 0), api.ErrRange)
	valid(t, "out of range, and greater", securityOf(5, 17), api.ErrRange)
}

func TestValidOfHashes(t *testing.T) {
	for _, size := range []int{0, 1, 16, 20, 31, 32, 33, 64, 256, 1024, 5000} {
		want := api.ErrSize
		if size == 32 {
			want = api.OK
		}
		for at := range 16 {
			valid(t, "a size", with(full(), func(s *api.Security) { s.Hashes[at].Hash = samples.Bytes(size) }), want)
		}
	}
	// Any 32 bytes are a hash, and two groups may have the same.
	for _, b := range [][]byte{make([]byte, 32), bytes.Repeat([]byte{255}, 32), samples.Roomy(samples.Bytes(32))} {
		valid(t, "bytes", with(securityOf(3, 4), func(s *api.Security) { s.Hashes[0].Hash, s.Hashes[1].Hash = b, b }), api.OK)
	}
}

func TestValidOfCertificatesAndSignatures(t *testing.T) {
	for _, size := range []int{0, 1, 2, 127, 128, 500, 1023, 1024, 1025, 1026, 2048, 4096, 70000} {
		want := api.ErrSize
		if size >= 1 && size <= 1024 {
			want = api.OK
		}
		valid(t, "a size", with(securityOf(3), func(s *api.Security) { s.Certificate = samples.Bytes(size) }), want)
		valid(t, "a size", with(full(), func(s *api.Security) { s.Certificate = make([]byte, size) }), want)
	}
	right := []int{0, 1, 2, 255, 1 << 29, order - 2, order - 1}
	wrong := append([]int{order, order + 1, 1 << 30, 1<<31 - 1, 1<<32 - 1}, far...)
	for _, a := range append(slices.Clone(right), wrong...) {
		for _, b := range append(slices.Clone(right), wrong...) {
			want := api.OK
			if slices.Contains(wrong, a) || slices.Contains(wrong, b) {
				want = api.ErrSignature
			}
			valid(t, "a signature", with(securityOf(3), func(s *api.Security) { s.Signature = api.Signature{E: a, S: b} }), want)
		}
	}
}

// All sets of defects.
func TestValidOrderOfErrors(t *testing.T) {
	defects := append(defectsOfSigned(), defectsOfOthers()...)
	for set := range 1 << len(defects) {
		s, name, want := securityOf(2, 5, 9), "", api.OK
		for i, d := range defects {
			if set>>i&1 == 0 {
				continue
			}
			d.make(&s)
			name += d.name + ", "
			if want == api.OK {
				want = d.want
			}
		}
		valid(t, name, s, want)
	}
}

// Of two hashes with an error, the first one decides, and for it the first one of its errors.
func TestValidOrderBetweenHashes(t *testing.T) {
	changes := map[api.Errno]func(h *api.GroupHash){
		api.ErrRange: func(h *api.GroupHash) { h.Group = -5 },
		api.ErrOrder: func(h *api.GroupHash) { h.Group = 1 },
		api.ErrSize:  func(h *api.GroupHash) { h.Hash = nil },
	}
	for first, makeFirst := range changes {
		for _, makeSecond := range changes {
			for i := 1; i < 16; i++ {
				for j := i + 1; j < 16; j++ {
					s := full()
					makeFirst(&s.Hashes[i])
					makeSecond(&s.Hashes[j])
					valid(t, "two hashes", s, first)
				}
			}
		}
		for i := 1; i < 16; i++ {
			s := full()
			makeFirst(&s.Hashes[i])
			changes[api.ErrSize](&s.Hashes[i])
			valid(t, "one hash", s, first)
		}
	}
}

func TestValidOfRandomObjects(t *testing.T) {
	r := rand.New(rand.NewSource(1))
	seen := map[api.Errno]int{}
	for range 20000 {
		s := spoil(r, randomSecurity(r))
		want := definedValid(s)
		valid(t, "random", s, want)
		seen[want]++
	}
	for _, e := range []api.Errno{api.OK, api.ErrRange, api.ErrSize, api.ErrOrder, api.ErrSignature} {
		if seen[e] < 300 {
			t.Errorf("the error %d occurred %d times only", e, seen[e])
		}
	}
}

// The bytes are written down by hand.
func TestMessageAsBytes(t *testing.T) {
	hash := func(first string) string {
		return first + "30557a9fc4e90e33587da2c7ec11365b80a5caef14395e83a8cdf2173c6186"
	}
	if want := samples.Unhex(hash("07")); !bytes.Equal(hashOf(7).Hash, want) {
		t.Fatalf("%x", hashOf(7).Hash)
	}
	for _, x := range []struct {
		version int
		groups  []int
		want    string
	}{
		{1, []int{1}, "30 2c 020101 30 27 30 25 020101 0420" + hash("01")},
		{0, []int{16}, "30 2c 020100 30 27 30 25 020110 0420" + hash("10")},
		{
			1, []int{2, 3, 14},
			"30 7a 020101 30 75 30 25 020102 0420" + hash("02") + "30 25 020103 0420" + hash("03") + "30 25 02010e 0420" + hash("0e"),
		},
		{
			// From 128 on, a length has a second byte.
			0, []int{1, 2, 3, 4},
			"30 81a2 020100 30 819c 30 25 020101 0420" + hash("01") + "30 25 020102 0420" + hash("02") + "30 25 020103 0420" + hash("03") + "30 25 020104 0420" + hash("04"),
		},
	} {
		s := with(securityOf(x.groups...), func(s *api.Security) { s.Version = x.version })
		want := samples.Unhex(x.want)
		if b, e := Message(s); e != api.OK || !bytes.Equal(b, want) {
			t.Errorf("%x: %x and %d", s, b, e)
		}
		if b := samples.Unhex(messageText(s)); !bytes.Equal(b, want) {
			t.Errorf("%x: the definitions say %x", s, b)
		}
	}
	b, e := Message(full())
	if e != api.OK || len(b) != 635 || !bytes.HasPrefix(b, samples.Unhex("30 820277 020101 30 820270 30 25 020101 0420 01")) {
		t.Errorf("%x and %d", b, e)
	}
}

// Certificate and Signature are not looked at.
func TestMessageOfOthers(t *testing.T) {
	for _, s := range []api.Security{securityOf(3), securityOf(2, 5, 9), full()} {
		want, e := Message(s)
		if e != api.OK {
			t.Fatal(e)
		}
		for set := range 1 << len(defectsOfOthers()) {
			other := copyOf(s)
			for i, d := range defectsOfOthers() {
				if set>>i&1 == 1 {
					d.make(&other)
				}
			}
			if b, e := Message(other); e != api.OK || !bytes.Equal(b, want) {
				t.Errorf("%x: %x and %d", other, b, e)
			}
		}
		only := api.Security{Version: s.Version, Hashes: s.Hashes}
		if b, e := Message(only); e != api.OK || !bytes.Equal(b, want) {
			t.Errorf("%x: %x and %d", only, b, e)
		}
		// With another content, they have the same message, too.
		other := with(s, func(s *api.Security) { s.Certificate, s.Signature = samples.Bytes(700), api.Signature{E: 1, S: 2} })
		if b, e := Message(other); e != api.OK || !bytes.Equal(b, want) {
			t.Errorf("%x: %x and %d", other, b, e)
		}
	}
}

// Whatever else is not valid, Message returns the error of what is signed, also where Valid does.
func TestMessageErrors(t *testing.T) {
	for _, d := range defectsOfSigned() {
		for set := range 1 << len(defectsOfOthers()) {
			s := securityOf(2, 5, 9)
			d.make(&s)
			for i, other := range defectsOfOthers() {
				if set>>i&1 == 1 {
					other.make(&s)
				}
			}
			if b, e := Message(s); e != d.want || len(b) != 0 {
				t.Errorf("%s: %x and %d, not %d", d.name, b, e, d.want)
			}
		}
	}
}
