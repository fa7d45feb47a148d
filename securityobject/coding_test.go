package securityobject

import (
	"bytes"
	"math/rand"
	"slices"
	"strings"
	"testing"

	"traveldoc/api"
	"traveldoc/samples"
	"traveldoc/tlv"
)

// P16.2

// several are security objects that are valid, the shortest and the longest among them.
func several() []api.Security {
	return []api.Security{
		with(securityOf(1), func(s *api.Security) { s.Version, s.Certificate, s.Signature = 0, []byte{0}, api.Signature{} }),
		securityOf(16),
		securityOf(2, 5, 9),
		with(securityOf(1, 16), func(s *api.Security) { s.Signature = api.Signature{E: order - 1, S: order - 1} }),
		full(),
		with(full(), func(s *api.Security) { s.Certificate = samples.Bytes(1024) }),
	}
}

// The bytes are those of another language.
func TestEncodeAsBytes(t *testing.T) {
	for _, x := range made() {
		want := samples.Unhex(x.file)
		if b, e := Encode(x.want); e != api.OK || !bytes.Equal(b, want) {
			t.Errorf("%x: %x and %d", x.want, b, e)
		}
		if b := bytesOf(x.want); !bytes.Equal(b, want) {
			t.Errorf("%x: the definitions say %x", x.want, b)
		}
		accept(t, "bytes", want, x.want)
	}
}

// Decode(Encode(s)) is s.
func TestDecodeOfEncode(t *testing.T) {
	for _, s := range several() {
		b, e := Encode(s)
		if e != api.OK || !bytes.Equal(b, bytesOf(s)) {
			t.Errorf("%x: %x and %d", s, b, e)
		}
		accept(t, "what was written", b, s)
	}
	// No security object has more bytes than a file may have.
	if b, _ := Encode(several()[5]); len(b) != 1685 {
		t.Errorf("the longest one has %d bytes", len(b))
	}
	r := rand.New(rand.NewSource(2))
	for range 2000 {
		s := randomSecurity(r)
		b, e := Encode(s)
		if e != api.OK || !bytes.Equal(b, bytesOf(s)) {
			t.Fatalf("%x: %x and %d", s, b, e)
		}
		accept(t, "random", b, s)
		if t.Failed() {
			break
		}
	}
}

func TestDecodeOfWhatOpenRefuses(t *testing.T) {
	b := bytesOf(securityOf(2, 5, 9))
	for i := range b {
		want := api.ErrTruncated
		if i == 0 {
			want = api.ErrForm
		}
		refuse(t, "cut off", b[:i], want)
	}
	for text, want := range map[string]api.Errno{
		"": api.ErrForm, "7700 7700": api.ErrForm, "7700 0400": api.ErrForm, "0400 7700": api.ErrForm,
		"77": api.ErrTruncated, "7701": api.ErrTruncated, "7780 00": api.ErrTruncated, "7702 3080": api.ErrTruncated,
		"00": api.ErrTag, "7702 0000": api.ErrTag, "7703 5f8000": api.ErrTag, "7700 00": api.ErrTag,
		"7785 0000000000": api.ErrLength, "7702 0480": api.ErrLength,
		"3000": api.ErrTag, "0400": api.ErrTag, "7800": api.ErrTag, "7f7700": api.ErrTag, "5f7700": api.ErrTag, "5700": api.ErrTag,
		strings.Repeat("7780", 9):                                           api.ErrDepth,
		samples.Object(0x77, strings.Repeat("0400", 256)):                   api.ErrSize,
		samples.Object(0x77, samples.Object(4, strings.Repeat("00", 4093))): api.ErrSize,
	} {
		refuse(t, "bytes", samples.Unhex(text), want)
	}
	refuse(t, "nil", nil, api.ErrForm)
	refuse(t, "too many bytes", append(bytes.Clone(b), make([]byte, 4096)...), api.ErrSize)
	refuse(t, "twice", append(bytes.Clone(b), b...), api.ErrForm)
	refuse(t, "an object behind", append(bytes.Clone(b), 4, 0), api.ErrForm)
	refuse(t, "an object ahead", append([]byte{4, 0}, b...), api.ErrForm)
	refuse(t, "a byte behind", append(bytes.Clone(b), 4), api.ErrTruncated)
	refuse(t, "without the group", b[3:], api.ErrTag)
}

func TestDecodeOfOtherGroups(t *testing.T) {
	for _, s := range several() {
		b := bytesOf(s)
		for _, tag := range samples.Unhex("61 75 63 76 65 66 67 68 69 6a 6b 6c 6d 6e 6f 70 60") {
			b[0] = tag
			refuse(t, "another group", b, api.ErrTag)
		}
		for _, tag := range samples.Unhex("04 30 62 64 71 74 78") {
			b[0] = tag
			refuse(t, "no group", b, api.ErrTag)
		}
	}
	refuse(t, "another group without Kids", samples.Unhex("6100"), api.ErrTag)
	refuse(t, "another group with other Kids", samples.Unhex("60020400"), api.ErrTag)
}

func TestDecodeOfOtherForms(t *testing.T) {
	message, signature := messageText(securityOf(3)), signatureText(api.Signature{E: 1, S: 2})
	m, c, s := samples.Object(4, message), samples.Object(4, "0a0b"), samples.Object(4, signature)
	list := samples.Object(0x30, m, c, s)
	for _, x := range []struct{ name, text string }{
		{"no Kid", ""},
		{"two Kids", list + list},
		{"two Kids, an empty one", list + "3000"},
		{"a primitive object behind", list + "0400"},
		{"a primitive object ahead", "0400" + list},
		{"the parts only", m + c + s},
		{"a list within a list", samples.Object(0x30, list)},
		{"a set", samples.Object(0x31, m, c, s)},
		{"a group", samples.Object(0x77, m, c, s)},
		{"another tag", samples.Object(0xb0, m, c, s)},
		{"a tag of two bytes", samples.Object(0x7f30, m, c, s)},
		{"a primitive object", samples.Object(4, m, c, s)},
		{"a primitive object with another tag", samples.Object(0x10, m, c, s)},
		{"an empty list", "3000"},
		{"one part", samples.Object(0x30, m)},
		{"two parts", samples.Object(0x30, m, c)},
		{"two other parts", samples.Object(0x30, m, s)},
		{"four parts", samples.Object(0x30, m, c, s, "0400")},
		{"four parts, an empty one ahead", samples.Object(0x30, "0400", m, c, s)},
		{"two certificates", samples.Object(0x30, m, c, c, s)},
		{"six parts", samples.Object(0x30, m, c, s, m, c, s)},
		{"a message that is no text of bytes", samples.Object(0x30, message, c, s)},
		{"a constructed message", samples.Object(0x30, samples.Object(0x24, m), c, s)},
		{"a constructed message with the content", samples.Object(0x30, samples.Object(0x24, message), c, s)},
		{"an empty constructed message", samples.Object(0x30, "2400", c, s)},
		{"an empty constructed certificate", samples.Object(0x30, m, "2400", s)},
		{"a certificate with Kids", samples.Object(0x30, m, samples.Object(0x24, c), s)},
		{"a certificate that is a list", samples.Object(0x30, m, samples.Object(0x30, c), s)},
		{"an empty constructed signature", samples.Object(0x30, m, c, "2400")},
		{"a signature with Kids", samples.Object(0x30, m, c, samples.Object(0x24, s))},
		{"a signature that is a list", samples.Object(0x30, m, c, samples.Object(0x30, "0201010201 02"))},
		{"a signature with bits", samples.Object(0x30, m, c, samples.Object(3, signature))},
		{"a message that is a number", samples.Object(0x30, samples.Object(2, message), c, s)},
		{"a certificate with a tag of two bytes", samples.Object(0x30, m, samples.Object(0x5f1f, "0a0b"), s)},
	} {
		refuse(t, x.name, samples.Unhex(samples.Object(0x77, x.text)), api.ErrForm)
	}
	accept(t, "the form", samples.Unhex(samples.Object(0x77, list)), with(securityOf(3), func(s *api.Security) {
		s.Certificate, s.Signature = []byte{10, 11}, api.Signature{E: 1, S: 2}
	}))
	// In another order, the parts have the same form, but not the same meaning.
	refuse(t, "the certificate ahead", samples.Unhex(samples.Object(0x77, samples.Object(0x30, c, m, s))), api.ErrTruncated)
	refuse(t, "the signature ahead", samples.Unhex(samples.Object(0x77, samples.Object(0x30, s, c, m))), api.ErrTag)
	refuse(t, "the signature in the middle", samples.Unhex(samples.Object(0x77, samples.Object(0x30, m, s, c))), api.ErrSize)
}

// Each object of a file, outside of the message, gets each other tag.
func TestDecodeOfOtherTagsOfTheFile(t *testing.T) {
	whole, e := tlv.Parse(bytesOf(securityOf(3)), true)
	if e != api.OK {
		t.Fatal(e)
	}
	samples.EachNode(whole, func(tag int, change func(func(n *api.Node)) []api.Node) {
		for other := range 1 << 16 {
			if !tlv.Valid(other) || tlv.Constructed(other) != tlv.Constructed(tag) || other == tag {
				continue
			}
			b, e := tlv.Encode(change(func(n *api.Node) { n.Tag = other }))
			if e != api.OK {
				t.Fatal(e)
			}
			want := api.ErrForm
			if tag == 0x77 {
				want = api.ErrTag
			}
			if _, e := Decode(b); e != want {
				t.Errorf("%#x instead of %#x: %d", other, tag, e)
			}
		}
	})
}

// withMessage returns a file with this message, and a certificate and a signature that are right.
func withMessage(message ...string) []byte {
	return fileOf(strings.Join(message, ""), "0a", signatureText(api.Signature{E: 1, S: 2}))
}

// The errors of tlv.Parse, strictly.
func TestDecodeOfMessagesThatAreNotStrict(t *testing.T) {
	text := messageText(securityOf(3))
	for n := 2; n < len(text); n += 2 {
		refuse(t, "cut off", withMessage(text[:n]), api.ErrTruncated)
	}
	hash := strings.Repeat("ab", 32)
	for _, x := range []struct {
		message string
		want    api.Errno
	}{
		{text + "00", api.ErrTag}, {text + "30", api.ErrTruncated}, {text + "3080", api.ErrLength}, {text + "0401", api.ErrTruncated},
		{"00", api.ErrTag}, {"0000", api.ErrTag}, {"1f", api.ErrTruncated}, {"1f00", api.ErrTag}, {"30", api.ErrTruncated},
		// Lengths in longer forms, at each object.
		{"30812c 020101 3027 3025 020103 0420" + hash, api.ErrLength},
		{"3082002c 020101 3027 3025 020103 0420" + hash, api.ErrLength},
		{"302d 02810101 3027 3025 020103 0420" + hash, api.ErrLength},
		{"302d 020101 308127 3025 020103 0420" + hash, api.ErrLength},
		{"302d 020101 3028 308125 020103 0420" + hash, api.ErrLength},
		{"302d 020101 3028 3026 02810103 0420" + hash, api.ErrLength},
		{"302d 020101 3028 3026 020103 048120" + hash, api.ErrLength},
		{"3030 020101 302b 3029 020103 048400000020" + hash, api.ErrLength},
		// The indefinite form.
		{"3080 020101 3027 3025 020103 0420" + hash + "0000", api.ErrLength},
		{"302e 020101 3080 3025 020103 0420" + hash + "0000", api.ErrLength},
		{"302e 020101 3029 3080 020103 0420" + hash + "0000", api.ErrLength},
		{"308100", api.ErrLength}, {"3080 0000", api.ErrLength}, {"3085 0000000000", api.ErrLength},
		{"302c 020101 3027 3025 020103 0480" + hash, api.ErrLength},
		// Lengths that do not fit each other.
		{"302b 020101 3027 3025 020103 0420" + hash, api.ErrTruncated},
		{"302c 020101 3028 3025 020103 0420" + hash, api.ErrTruncated},
		{"302c 020101 3027 3025 020103 0421" + hash, api.ErrTruncated},
		{"302c 020101 3026 3025 020103 0420" + hash, api.ErrTruncated},
		{"302c 020101 3027 3024 020103 0420" + hash, api.ErrTruncated},
		{"302c 020101 3027 3025 020203 0420" + hash, api.ErrLength},
		{"3010 300e 300c 300a 3008 3006 3004 3002 3000", api.ErrDepth},
		{"300e 300c 300a 3008 3006 3004 3002 3000", api.ErrForm},
		{strings.Repeat("0400", 257), api.ErrSize},
		{strings.Repeat("0400", 256), api.ErrForm},
	} {
		refuse(t, "a message", withMessage(x.message), x.want)
	}
}

func TestDecodeOfMessagesOfOtherForms(t *testing.T) {
	version, group, hash := "020101", "020103", samples.Object(4, strings.Repeat("ab", 32))
	one := samples.Object(0x30, group, hash)
	hashes := samples.Object(0x30, one)
	refuse(t, "the form", withMessage(samples.Object(0x30, version, hashes)), api.OK)
	refuse(t, "the form with several hashes", withMessage(samples.Object(0x30, "020100", samples.Object(0x30, one, samples.Object(0x30, "020110", hash)))), api.OK)
	whole := samples.Object(0x30, version, hashes)
	for _, x := range []struct{ name, message string }{
		{"no byte", ""},
		{"two messages", whole + whole},
		{"an object behind", whole + "0400"},
		{"an empty list behind", whole + "3000"},
		{"an object ahead", "0400" + whole},
		{"the Kids only", version + hashes},
		{"a message within a list", samples.Object(0x30, whole)},
		{"a message within bytes", samples.Object(4, whole)},
		{"a set", samples.Object(0x31, version, hashes)},
		{"another tag", samples.Object(0xb0, version, hashes)},
		{"a tag of two bytes", samples.Object(0x7f30, version, hashes)},
		{"a primitive object", samples.Object(0x10, version, hashes)},
		{"no Kid", "3000"},
		{"no hashes", samples.Object(0x30, version)},
		{"no version", samples.Object(0x30, hashes)},
		{"another order", samples.Object(0x30, hashes, version)},
		{"two versions", samples.Object(0x30, version, version)},
		{"two versions and hashes", samples.Object(0x30, version, version, hashes)},
		{"two lists of hashes", samples.Object(0x30, version, hashes, hashes)},
		{"two lists without a version", samples.Object(0x30, hashes, hashes)},
		{"an object at the end", samples.Object(0x30, version, hashes, "0500")},
		{"an object at the beginning", samples.Object(0x30, "0500", version, hashes)},
		{"hashes without a list", samples.Object(0x30, version, one)},
		{"two hashes without a list", samples.Object(0x30, version, one, one)},
		{"a list within the list", samples.Object(0x30, version, samples.Object(0x30, hashes))},
		// The version.
		{"a version without bytes", samples.Object(0x30, "0200", hashes)},
		{"a version of two bytes", samples.Object(0x30, "02020001", hashes)},
		{"a version of four bytes", samples.Object(0x30, "020400000001", hashes)},
		{"a version of eight bytes", samples.Object(0x30, "02080000000000000001", hashes)},
		{"a version with another tag", samples.Object(0x30, "040101", hashes)},
		{"a version with another tag", samples.Object(0x30, "010101", hashes)},
		{"a constructed version", samples.Object(0x30, "2203020101", hashes)},
		{"an empty constructed version", samples.Object(0x30, "2200", hashes)},
		{"a version that is a list", samples.Object(0x30, "3003020101", hashes)},
		// The list.
		{"a set of hashes", samples.Object(0x30, version, samples.Object(0x31, one))},
		{"an empty set", samples.Object(0x30, version, "3100")},
		{"a primitive list", samples.Object(0x30, version, samples.Object(4, one))},
		{"an empty primitive list", samples.Object(0x30, version, "1000")},
		// A hash.
		{"an empty hash", samples.Object(0x30, version, samples.Object(0x30, "3000"))},
		{"a hash without bytes", samples.Object(0x30, version, samples.Object(0x30, samples.Object(0x30, group)))},
		{"a hash without a group", samples.Object(0x30, version, samples.Object(0x30, samples.Object(0x30, hash)))},
		{"a hash in another order", samples.Object(0x30, version, samples.Object(0x30, samples.Object(0x30, hash, group)))},
		{"a hash with more", samples.Object(0x30, version, samples.Object(0x30, samples.Object(0x30, group, hash, "0400")))},
		{"a hash with more", samples.Object(0x30, version, samples.Object(0x30, samples.Object(0x30, group, hash, hash)))},
		{"a hash with an object ahead", samples.Object(0x30, version, samples.Object(0x30, samples.Object(0x30, "0500", group, hash)))},
		{"a hash that is a set", samples.Object(0x30, version, samples.Object(0x30, samples.Object(0x31, group, hash)))},
		{"a primitive hash", samples.Object(0x30, version, samples.Object(0x30, samples.Object(4, group, hash)))},
		{"a primitive object for a hash", samples.Object(0x30, version, samples.Object(0x30, "0500"))},
		{"the hash itself for a hash", samples.Object(0x30, version, samples.Object(0x30, group, hash))},
		{"a group without bytes", samples.Object(0x30, version, samples.Object(0x30, samples.Object(0x30, "0200", hash)))},
		{"a group of two bytes", samples.Object(0x30, version, samples.Object(0x30, samples.Object(0x30, "02020003", hash)))},
		{"a group of eight bytes", samples.Object(0x30, version, samples.Object(0x30, samples.Object(0x30, "02080000000000000003", hash)))},
		{"a group with another tag", samples.Object(0x30, version, samples.Object(0x30, samples.Object(0x30, "040103", hash)))},
		{"a constructed group", samples.Object(0x30, version, samples.Object(0x30, samples.Object(0x30, "2203020103", hash)))},
		{"bytes with another tag", samples.Object(0x30, version, samples.Object(0x30, samples.Object(0x30, group, samples.Object(3, strings.Repeat("ab", 32)))))},
		{"constructed bytes", samples.Object(0x30, version, samples.Object(0x30, samples.Object(0x30, group, samples.Object(0x24, hash))))},
		{"empty constructed bytes", samples.Object(0x30, version, samples.Object(0x30, samples.Object(0x30, group, "2400")))},
		{"bytes that are a number", samples.Object(0x30, version, samples.Object(0x30, samples.Object(0x30, group, "020105")))},
		// The second hash.
		{"a second hash without bytes", samples.Object(0x30, version, samples.Object(0x30, one, samples.Object(0x30, "020104")))},
		{"a second hash that is empty", samples.Object(0x30, version, samples.Object(0x30, one, "3000"))},
		{"a primitive object behind a hash", samples.Object(0x30, version, samples.Object(0x30, one, "0400"))},
	} {
		refuse(t, x.name, withMessage(x.message), api.ErrForm)
	}
}

// Each object of a message gets other tags, and other numbers of Kids or bytes.
func TestDecodeOfOtherObjectsOfTheMessage(t *testing.T) {
	whole, e := tlv.Parse(samples.Unhex(messageText(securityOf(3, 7))), true)
	if e != api.OK {
		t.Fatal(e)
	}
	expect := func(name string, l []api.Node, want api.Errno) {
		t.Helper()
		message, e := tlv.Encode(l)
		if e != api.OK {
			t.Fatal(e)
		}
		refuse(t, name, withMessage(textOf(message)), want)
	}
	samples.EachNode(whole, func(tag int, change func(func(n *api.Node)) []api.Node) {
		for other := range 256 {
			if !tlv.Valid(other) || tlv.Constructed(other) != tlv.Constructed(tag) || other == tag {
				continue
			}
			expect("another tag", change(func(n *api.Node) { n.Tag = other }), api.ErrForm)
			expect("another tag of two bytes", change(func(n *api.Node) { n.Tag = n.Tag | 31<<8 | n.Tag&32<<8 }), api.ErrForm)
		}
		if tlv.Constructed(tag) {
			expect("an object more", change(func(n *api.Node) { n.Kids = append(n.Kids, api.Node{Tag: 5}) }), api.ErrForm)
			expect("an object more ahead", change(func(n *api.Node) { n.Kids = append([]api.Node{{Tag: 5}}, n.Kids...) }), api.ErrForm)
			return
		}
		want := api.ErrForm
		if tag == 4 {
			want = api.ErrSize
		}
		expect("a byte more", change(func(n *api.Node) { n.Value = append(n.Value, 0) }), want)
		expect("a byte less", change(func(n *api.Node) { n.Value = n.Value[1:] }), want)
		expect("no byte", change(func(n *api.Node) { n.Value = nil }), want)
	})
}

func TestDecodeOfSignatures(t *testing.T) {
	s := securityOf(3)
	file := func(signature string) []byte { return fileOf(messageText(s), textOf(s.Certificate), signature) }
	for size := range 300 {
		want := api.ErrSize
		if size == 8 {
			want = api.OK
		}
		refuse(t, "a size", file(strings.Repeat("01", size)), want)
		if want != api.OK {
			refuse(t, "a size of what is out of range", file(strings.Repeat("ff", size)), want)
		}
	}
	for text, want := range map[string]api.Errno{
		"00000000 00000000": api.OK, "3fffffdc 3fffffdc": api.OK, "00000001 3fffffdc": api.OK,
		"3fffffdd 00000000": api.ErrRange, "00000000 3fffffdd": api.ErrRange, "40000000 00000001": api.ErrRange,
		"ffffffff ffffffff": api.ErrRange, "80000000 00000000": api.ErrRange, "00000000 80000001": api.ErrRange,
	} {
		refuse(t, "a signature", file(strings.ReplaceAll(text, " ", "")), want)
	}
}

// What is read, and not valid.
func TestDecodeOfWhatIsNotValid(t *testing.T) {
	for _, x := range []struct {
		s    api.Security
		want api.Errno
	}{
		{with(securityOf(3), func(s *api.Security) { s.Version = 2 }), api.ErrRange},
		{with(securityOf(3), func(s *api.Security) { s.Version = 128 }), api.ErrRange},
		{with(securityOf(3), func(s *api.Security) { s.Version = 255 }), api.ErrRange},
		{securityOf(), api.ErrSize},
		{securityOf(upTo(17)...), api.ErrSize},
		{securityOf(slices.Repeat([]int{3}, 17)...), api.ErrSize},
		{securityOf(upTo(40)...), api.ErrSize},
		{securityOf(0), api.ErrRange},
		{securityOf(17), api.ErrRange},
		{securityOf(18), api.ErrRange},
		{securityOf(128), api.ErrRange},
		{securityOf(255), api.ErrRange},
		{securityOf(3, 3), api.ErrOrder},
		{securityOf(3, 2), api.ErrOrder},
		{securityOf(1, 2, 16, 15), api.ErrOrder},
		{securityOf(5, 0), api.ErrRange},
		{with(securityOf(3), func(s *api.Security) { s.Hashes[0].Hash = nil }), api.ErrSize},
		{with(securityOf(3), func(s *api.Security) { s.Hashes[0].Hash = samples.Bytes(31) }), api.ErrSize},
		{with(securityOf(3), func(s *api.Security) { s.Hashes[0].Hash = samples.Bytes(33) }), api.ErrSize},
		{with(securityOf(3), func(s *api.Security) { s.Hashes[0].Hash = samples.Bytes(200) }), api.ErrSize},
		{with(securityOf(3, 4), func(s *api.Security) { s.Hashes[1].Hash = samples.Bytes(31) }), api.ErrSize},
		{with(securityOf(3), func(s *api.Security) { s.Certificate = nil }), api.ErrSize},
		{with(securityOf(3), func(s *api.Security) { s.Certificate = samples.Bytes(1025) }), api.ErrSize},
		{with(full(), func(s *api.Security) { s.Certificate = samples.Bytes(3000) }), api.ErrSize},
		// Where several apply, the first one decides.
		{with(securityOf(), func(s *api.Security) { s.Version = 2 }), api.ErrRange},
		{with(securityOf(0), func(s *api.Security) { s.Certificate = nil }), api.ErrRange},
		{with(securityOf(4, 3, 0), func(s *api.Security) { s.Certificate = nil }), api.ErrOrder},
		{with(securityOf(4, 3), func(s *api.Security) { s.Hashes[0].Hash = nil }), api.ErrSize},
		{with(securityOf(4, 3), func(s *api.Security) { s.Hashes[1].Hash = nil }), api.ErrOrder},
	} {
		refuse(t, "not valid", bytesOf(x.s), x.want)
		if e := Valid(x.s); e != x.want {
			t.Errorf("%x: %d", x.s, e)
		}
	}
	for _, size := range []int{1, 2, 127, 128, 1023, 1024} {
		s := with(full(), func(s *api.Security) { s.Certificate = samples.Bytes(size) })
		accept(t, "a certificate", bytesOf(s), s)
	}
}

// All sets of errors, of which the first one is returned.
func TestDecodeOrderOfErrors(t *testing.T) {
	const file, otherGroup, otherForm, loose, noMessage, signature, notValid = 1, 2, 4, 8, 16, 32, 64
	for set := range 128 {
		for _, sized := range []bool{true, false} {
			hashes, version := hashesText(securityOf(3).Hashes), "020101"
			wrong := "00000000" + "3fffffdd"
			if sized {
				wrong += "00"
			}
			tag, more, certificate, right := 0x77, "", "0a", "0000000100000002"
			want := api.OK
			// From the last to the first, so that the first one stays.
			if set&notValid != 0 {
				version, certificate, want = "020109", "", api.ErrRange
			}
			if set&signature != 0 {
				right, want = wrong, api.ErrRange
				if sized {
					want = api.ErrSize
				}
			}
			message := samples.Object(0x30, version, hashes)
			if set&noMessage != 0 {
				message, want = samples.Object(0x31, version, hashes), api.ErrForm
			}
			if set&loose != 0 {
				message, want = message+"308100", api.ErrLength
			}
			if set&otherForm != 0 {
				more, want = "0400", api.ErrForm
			}
			if set&otherGroup != 0 {
				tag, want = 0x6d, api.ErrTag
			}
			b := samples.Unhex(samples.Object(tag, samples.Object(0x30, samples.Object(4, message), samples.Object(4, certificate), samples.Object(4, right), more)))
			if set&file != 0 {
				b, want = append(b, 0x04), api.ErrTruncated
			}
			refuse(t, "a set", b, want)
		}
	}
}

// Outside of the message, lengths may have other forms; the message stays as it is.
func TestDecodeOfOtherFormsOfLengths(t *testing.T) {
	r := rand.New(rand.NewSource(3))
	for _, s := range several() {
		l, e := tlv.Parse(bytesOf(s), true)
		if e != api.OK {
			t.Fatal(e)
		}
		for range 60 {
			b := samples.Loose(r.Intn, l)
			accept(t, "other lengths", b, s)
			// What is encoded again is strict.
			back, _ := Decode(b)
			if again, e := Encode(back); e != api.OK || !bytes.Equal(again, bytesOf(s)) {
				t.Errorf("%x came back as %x: %d", b, again, e)
			}
		}
	}
	s := with(securityOf(3), func(s *api.Security) { s.Certificate, s.Signature = []byte{10}, api.Signature{E: 1, S: 2} })
	m, c, g := samples.Object(4, messageText(s)), "04010a", "04080000000100000002"
	for _, text := range []string{
		"7780 3080" + m + c + g + "0000 0000",
		"7783000040 30813d" + m + c + g,
		"778146 3044 0484 0000002e" + m[4:] + "0482 0001 0a 0481 08" + g[4:],
	} {
		accept(t, "by hand", samples.Unhex(text), s)
	}
}

// Each byte of a file is changed in turn.
func TestDecodeOfOtherBytes(t *testing.T) {
	b := bytesOf(securityOf(3, 7))
	for i := range b {
		for value := range 256 {
			changed := bytes.Clone(b)
			changed[i] = byte(value)
			expectDecode(t, "a byte", changed)
		}
	}
}

// bend makes a random change to objects, at a random place.
func bend(r *rand.Rand, l []api.Node) []api.Node {
	l = samples.CopyNodes(l)
	var places []*api.Node
	samples.SeeNodes(l, func(n *api.Node) { places = append(places, n) })
	if len(places) == 0 {
		return l
	}
	n := places[r.Intn(len(places))]
	switch {
	case r.Intn(8) == 0:
		n.Tag = pick(r, 2, 3, 4, 5)
		if tlv.Constructed(n.Tag) != (len(n.Kids) > 0) {
			n.Kids = nil
		}
	case len(n.Kids) > 0:
		i, j := r.Intn(len(n.Kids)), r.Intn(len(n.Kids))
		switch r.Intn(3) {
		case 0:
			n.Kids[i], n.Kids[j] = n.Kids[j], n.Kids[i]
		case 1:
			n.Kids = slices.Delete(n.Kids, i, i+1)
		case 2:
			n.Kids = append(n.Kids, samples.CopyNodes(n.Kids[i:i+1])...)
		}
	case n.Tag == 0x30:
		n.Kids = []api.Node{{Tag: 2, Value: []byte{1}}}
	case len(n.Value) == 0 || r.Intn(4) == 0:
		n.Value = append(n.Value, byte(r.Intn(256)))
	case r.Intn(4) == 0:
		n.Value = n.Value[:r.Intn(len(n.Value))]
	default:
		n.Value[r.Intn(len(n.Value))] = pick[byte](r, 0, 1, 2, 3, 16, 17, 0x30, 0x81, 255)
	}
	return l
}

func TestDecodeOfRandomFiles(t *testing.T) {
	r := rand.New(rand.NewSource(4))
	seen := map[api.Errno]int{}
	for range 20000 {
		s := spoil(r, randomSecurity(r))
		message, e := tlv.Parse(samples.Unhex(messageText(s)), true)
		if e != api.OK {
			t.Fatal(e)
		}
		for range r.Intn(3) {
			message = bend(r, message)
		}
		text, e := tlv.Encode(message)
		if e != api.OK {
			t.Fatal(e)
		}
		if r.Intn(20) == 0 {
			text = samples.Loose(r.Intn, message)
		}
		l, e := tlv.Parse(fileOf(textOf(text), textOf(s.Certificate), signatureText(s.Signature)), true)
		if e != api.OK {
			t.Fatal(e)
		}
		if r.Intn(4) == 0 {
			l = bend(r, l)
		}
		b := samples.Loose(r.Intn, l)
		seen[expectDecode(t, "random", b)]++
		if t.Failed() {
			return
		}
	}
	for _, e := range []api.Errno{api.OK, api.ErrForm, api.ErrTag, api.ErrLength, api.ErrTruncated, api.ErrRange, api.ErrOrder, api.ErrSize} {
		if seen[e] < 100 {
			t.Errorf("the error %d occurred %d times only", e, seen[e])
		}
	}
}

// Of bytes that are no files at all.
func TestDecodeOfRandomBytes(t *testing.T) {
	r := rand.New(rand.NewSource(5))
	for range 20000 {
		b := randomBytes(r, r.Intn(20))
		if len(b) > 3 && r.Intn(2) == 0 {
			copy(b, []byte{0x77, byte(len(b) - 2), 0x30, byte(len(b) - 4)})
		}
		expectDecode(t, "bytes", b)
	}
}
