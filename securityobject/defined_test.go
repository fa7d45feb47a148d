package securityobject

import (
	"bytes"
	"crypto/sha256"
	"encoding/hex"
	"math"
	"math/rand"
	"regexp"
	"slices"
	"strconv"
	"testing"

	"traveldoc/api"
	"traveldoc/datagroups"
	"traveldoc/samples"
	"traveldoc/sign"
	"traveldoc/tlv"
)

// The chapter's definitions, written out once more for the tests of this package: a security object is examined defect by defect, files and messages are written as hexadecimal text, and the objects that are read are written as text, whose form is that of regular expressions. What belongs to lower layers is taken from them.

const order = 1073741789

// far are numbers that are neither versions nor groups nor those of a signature.
var far = []int{math.MinInt, math.MinInt + 1, -1 << 32, 1 - 1<<32, -256, -17, -16, -1, 1 << 32, 1<<32 + 1, 1<<32 + 16, 1 << 62, math.MaxInt - 1, math.MaxInt}

// definedSigned returns all errors of what is signed, in their order.
func definedSigned(s api.Security) []api.Errno {
	var errors []api.Errno
	if s.Version != 0 && s.Version != 1 {
		errors = append(errors, api.ErrRange)
	}
	if len(s.Hashes) < 1 || len(s.Hashes) >= 17 {
		errors = append(errors, api.ErrSize)
	}
	for i, h := range s.Hashes {
		if h.Group <= 0 || h.Group >= 17 {
			errors = append(errors, api.ErrRange)
		}
		if i > 0 && s.Hashes[i-1].Group >= h.Group {
			errors = append(errors, api.ErrOrder)
		}
		if len(h.Hash) != sha256.Size {
			errors = append(errors, api.ErrSize)
		}
	}
	return errors
}

// definedErrors returns all errors of a security object, in their order.
func definedErrors(s api.Security) []api.Errno {
	errors := definedSigned(s)
	if len(s.Certificate) < 1 || len(s.Certificate) >= 1025 {
		errors = append(errors, api.ErrSize)
	}
	for _, n := range []int{s.Signature.E, s.Signature.S} {
		if n < 0 || n >= order {
			errors = append(errors, api.ErrSignature)
		}
	}
	return errors
}

func firstOf(errors []api.Errno) api.Errno {
	if len(errors) == 0 {
		return api.OK
	}
	return errors[0]
}

// definedValid is P16.1.
func definedValid(s api.Security) api.Errno { return firstOf(definedErrors(s)) }

// textOf returns bytes as hexadecimal text.
func textOf(b []byte) string { return hex.EncodeToString(b) }

// hashesText returns the text of the list of hashes, valid or not.
func hashesText(l []api.GroupHash) string {
	text := ""
	for _, h := range l {
		text += samples.Object(0x30, "0201"+samples.Digits(h.Group, 1), samples.Object(4, textOf(h.Hash)))
	}
	return samples.Object(0x30, text)
}

// messageText returns the text of a message, valid or not.
func messageText(s api.Security) string {
	return samples.Object(0x30, "0201"+samples.Digits(s.Version, 1), hashesText(s.Hashes))
}

func signatureText(s api.Signature) string { return samples.Digits(s.E, 4) + samples.Digits(s.S, 4) }

// fileOf returns a file with the texts of these parts, whatever they are.
func fileOf(message, certificate, signature string) []byte {
	return samples.Unhex(samples.Object(0x77, samples.Object(0x30, samples.Object(4, message), samples.Object(4, certificate), samples.Object(4, signature))))
}

// bytesOf returns the file of a security object, valid or not.
func bytesOf(s api.Security) []byte {
	return fileOf(messageText(s), textOf(s.Certificate), signatureText(s.Signature))
}

var (
	fileForm    = regexp.MustCompile(`^30\[\]\(4\[([0-9a-f]*)\]\(\)4\[([0-9a-f]*)\]\(\)4\[([0-9a-f]*)\]\(\)\)$`)
	hashForm    = regexp.MustCompile(`30\[\]\(2\[(..)\]\(\)4\[([0-9a-f]*)\]\(\)\)`)
	messageForm = regexp.MustCompile(`^30\[\]\(2\[(..)\]\(\)30\[\]\(((?:30\[\]\(2\[..\]\(\)4\[[0-9a-f]*\]\(\)\))*)\)\)$`)
)

func hexNumber(text string) int {
	n, err := strconv.ParseInt(text, 16, 64)
	if err != nil {
		panic(err)
	}
	return int(n)
}

// definedDecode is P16.2. The errors of datagroups.Open and tlv.Parse are tested where these are.
func definedDecode(b []byte) (api.Security, api.Errno) {
	number, objects, e := datagroups.Open(b)
	if e != api.OK {
		return api.Security{}, e
	}
	if number != 18 {
		return api.Security{}, api.ErrTag
	}
	file := fileForm.FindStringSubmatch(samples.TextOfNodes(objects))
	if file == nil {
		return api.Security{}, api.ErrForm
	}
	objects, e = tlv.Parse(samples.Unhex(file[1]), true)
	if e != api.OK {
		return api.Security{}, e
	}
	message := messageForm.FindStringSubmatch(samples.TextOfNodes(objects))
	if message == nil {
		return api.Security{}, api.ErrForm
	}
	if len(file[3]) != 16 {
		return api.Security{}, api.ErrSize
	}
	s := api.Security{Version: hexNumber(message[1]), Certificate: samples.Unhex(file[2])}
	s.Signature = api.Signature{E: hexNumber(file[3][:8]), S: hexNumber(file[3][8:])}
	if s.Signature.E >= order || s.Signature.S >= order {
		return api.Security{}, api.ErrRange
	}
	for _, m := range hashForm.FindAllStringSubmatch(message[2], -1) {
		s.Hashes = append(s.Hashes, api.GroupHash{Group: hexNumber(m[1]), Hash: samples.Unhex(m[2])})
	}
	if e := definedValid(s); e != api.OK {
		return api.Security{}, e
	}
	return s, api.OK
}

// definedHashes is P16.3, with the digest of Go's library.
func definedHashes(files [][]byte) ([]api.GroupHash, api.Errno) {
	sums := map[int][]byte{}
	for _, b := range files {
		number, _, e := datagroups.Open(b)
		switch {
		case e != api.OK:
			return nil, e
		case number == 17 || number == 18:
			return nil, api.ErrRange
		case sums[number] != nil:
			return nil, api.ErrDuplicate
		}
		sum := sha256.Sum256(b)
		sums[number] = sum[:]
	}
	var l []api.GroupHash
	for number := 1; number <= 16; number++ {
		if sums[number] != nil {
			l = append(l, api.GroupHash{Group: number, Hash: sums[number]})
		}
	}
	return l, api.OK
}

// definedMake is P16.3. The signature is that of the lower layer.
func definedMake(k int, certificate []byte, files [][]byte) (api.Security, api.Errno) {
	l, e := definedHashes(files)
	if e != api.OK {
		return api.Security{}, e
	}
	if len(l) == 0 || len(certificate) < 1 || len(certificate) >= 1025 {
		return api.Security{}, api.ErrSize
	}
	s := api.Security{Version: 1, Hashes: l, Certificate: bytes.Clone(certificate)}
	s.Signature, e = sign.Sign(k, samples.Unhex(messageText(s)))
	if e != api.OK {
		return api.Security{}, e
	}
	return s, api.OK
}

// definedDiffer is P16.4.
func definedDiffer(s api.Security, files [][]byte) ([]int, api.Errno) {
	if e := definedValid(s); e != api.OK {
		return nil, e
	}
	l, e := definedHashes(files)
	if e != api.OK {
		return nil, e
	}
	signed := map[int]string{}
	for _, h := range s.Hashes {
		signed[h.Group] = textOf(h.Hash)
	}
	var groups []int
	for _, h := range l {
		if signed[h.Group] != textOf(h.Hash) {
			groups = append(groups, h.Group)
		}
	}
	return groups, api.OK
}

// Help for the tests of this package.

// same compares security objects, where nil and empty slices are equal.
func same(a, b api.Security) bool {
	return a.Version == b.Version && sameHashes(a.Hashes, b.Hashes) && bytes.Equal(a.Certificate, b.Certificate) && a.Signature == b.Signature
}

func sameHashes(a, b []api.GroupHash) bool {
	return slices.EqualFunc(a, b, func(x, y api.GroupHash) bool { return x.Group == y.Group && bytes.Equal(x.Hash, y.Hash) })
}

// copyOf returns a copy that shares no memory.
func copyOf(s api.Security) api.Security {
	s.Hashes = slices.Clone(s.Hashes)
	for i := range s.Hashes {
		s.Hashes[i].Hash = bytes.Clone(s.Hashes[i].Hash)
	}
	s.Certificate = bytes.Clone(s.Certificate)
	return s
}

// hashOf returns a hash with bytes that are those of no other group.
func hashOf(group int) api.GroupHash {
	b := samples.Bytes(32)
	b[0] = byte(group)
	return api.GroupHash{Group: group, Hash: b}
}

// securityOf returns a security object that is valid, with hashes of these groups.
func securityOf(groups ...int) api.Security {
	s := api.Security{Version: 1, Certificate: samples.Bytes(5), Signature: api.Signature{E: 0x01020304, S: 0x3fffffdc}}
	for _, group := range groups {
		s.Hashes = append(s.Hashes, hashOf(group))
	}
	return s
}

// upTo returns the numbers from 1 to n.
func upTo(n int) []int {
	var l []int
	for i := range n {
		l = append(l, i+1)
	}
	return l
}

func full() api.Security { return securityOf(upTo(16)...) }

// with returns a copy of a security object with a change.
func with(s api.Security, change func(s *api.Security)) api.Security {
	s = copyOf(s)
	change(&s)
	return s
}

func pick[T any](r *rand.Rand, from ...T) T { return from[r.Intn(len(from))] }

// randomBytes returns n bytes.
func randomBytes(r *rand.Rand, n int) []byte {
	b := make([]byte, n)
	r.Read(b)
	return b
}

// randomSecurity returns a security object that is valid.
func randomSecurity(r *rand.Rand) api.Security {
	number := func() int { return pick(r, 0, 1, 255, 256, order-2, order-1, r.Intn(order)) }
	s := api.Security{Version: r.Intn(2), Signature: api.Signature{E: number(), S: number()}}
	s.Certificate = randomBytes(r, pick(r, 1, 2, 127, 128, 255, 256, 1023, 1024, 1+r.Intn(1024)))
	groups := r.Perm(16)[:1+r.Intn(16)]
	slices.Sort(groups)
	for _, group := range groups {
		s.Hashes = append(s.Hashes, api.GroupHash{Group: 1 + group, Hash: randomBytes(r, 32)})
	}
	return s
}

// spoil makes up to three random changes to a security object, which may stay valid. The versions and groups stay such that one byte has room for them.
func spoil(r *rand.Rand, s api.Security) api.Security {
	for range r.Intn(4) {
		if len(s.Hashes) == 0 {
			break
		}
		i := r.Intn(len(s.Hashes))
		h := &s.Hashes[i]
		switch r.Intn(9) {
		case 0:
			s.Version = pick(r, 0, 1, 2, 128, 255)
		case 1:
			h.Group = pick(r, 0, 1, 16, 17, 255)
		case 2:
			h.Hash = randomBytes(r, pick(r, 0, 31, 32, 33))
		case 3:
			h.Group = s.Hashes[0].Group
		case 4:
			s.Hashes[0], *h = *h, s.Hashes[0]
		case 5:
			s.Hashes = append(s.Hashes, hashOf(pick(r, 15, 16, 17)))
		case 6:
			s.Hashes = slices.Repeat(s.Hashes[:1], pick(r, 0, 1, 2, 16, 17))
		case 7:
			s.Certificate = randomBytes(r, pick(r, 0, 1, 1024, 1025))
		case 8:
			s.Signature = pick(r, api.Signature{E: order}, api.Signature{S: order}, api.Signature{E: 1<<32 - 1, S: 1}, api.Signature{E: order - 1, S: order - 1})
		}
	}
	return s
}

// expectDecode compares what Decode returns with what the chapter says, and returns the error.
func expectDecode(t *testing.T, name string, b []byte) api.Errno {
	t.Helper()
	want, wanted := definedDecode(b)
	if s, e := Decode(b); e != wanted || !same(s, want) {
		t.Errorf("%s, %x: %x and %d, not %x and %d", name, b, s, e, want, wanted)
	}
	return wanted
}

// refuse compares what Decode returns with an error, and with the definitions.
func refuse(t *testing.T, name string, b []byte, want api.Errno) {
	t.Helper()
	if e := expectDecode(t, name, b); e != want {
		t.Errorf("%s, %x: the definitions say %d, not %d", name, b, e, want)
	}
}

// accept tells that bytes are the file of a security object.
func accept(t *testing.T, name string, b []byte, want api.Security) {
	t.Helper()
	if e := expectDecode(t, name, b); e != api.OK {
		t.Errorf("%s, %x: the definitions say %d", name, b, e)
	}
	if s, _ := Decode(b); !same(s, want) {
		t.Errorf("%s, %x: %x, not %x", name, b, s, want)
	}
}
