package securityinfo

import (
	"bytes"
	"math/rand"
	"slices"
	"strings"
	"testing"

	"traveldoc/api"
	"traveldoc/samples"
	"traveldoc/tlv"
)

// P14.2

// The bytes are written down by hand.
func TestEncodeAsBytes(t *testing.T) {
	for _, x := range []struct {
		l    []api.Info
		want string
	}{
		{nil, "31 00"},
		{[]api.Info{}, "31 00"},
		{[]api.Info{generic()}, "31 13 3011 0609 04007f00070202 0401 020102 02010d"},
		{[]api.Info{integrated()}, "31 13 3011 0609 04007f00070202 0402 020101 02011f"},
		{[]api.Info{chip(3, 255)}, "31 19 3017 0609 04007f00070202 0301 020103 0404 01020304 0201ff"},
		{[]api.Info{terminal()}, "31 10 300e 0609 04007f00070202 0201 0201ff"},
		{[]api.Info{active()}, "31 10 300e 0609 04007f00070202 0501 020101"},
		{[]api.Info{{Protocol: api.ProtoGeneric, Version: 128}}, "31 13 3011 0609 04007f00070202 0401 020180 020100"},
		{[]api.Info{{Protocol: api.ProtoChip, Version: 1, Key: 3}}, "31 19 3017 0609 04007f00070202 0301 020101 0404 00000003 020100"},
		{[]api.Info{{Protocol: api.ProtoChip, Version: 1, Key: api.GroupPrime - 2}}, "31 19 3017 0609 04007f00070202 0301 020101 0404 7fffffb9 020100"},
		{
			one(), "31 5f 3011 0609 04007f00070202 0401 020102 02010d 3011 0609 04007f00070202 0402 020101 02011f" +
				"3017 0609 04007f00070202 0301 020103 0404 01020304 020107" +
				"300e 0609 04007f00070202 0201 0201ff 300e 0609 04007f00070202 0501 020101",
		},
		{
			// Six infos of 25 bytes: the length has a second byte from 128 on.
			[]api.Info{chip(1, 0), chip(1, 1), chip(1, 2), chip(1, 3), chip(1, 4), chip(1, 5)},
			"31 8196 3017 0609 04007f00070202 0301 020101 0404 01020304 020100 3017 0609 04007f00070202 0301 020101 0404 01020304 020101" +
				"3017 0609 04007f00070202 0301 020101 0404 01020304 020102 3017 0609 04007f00070202 0301 020101 0404 01020304 020103" +
				"3017 0609 04007f00070202 0301 020101 0404 01020304 020104 3017 0609 04007f00070202 0301 020101 0404 01020304 020105",
		},
	} {
		want := samples.Unhex(x.want)
		if b, e := Encode(x.l); e != api.OK || !bytes.Equal(b, want) {
			t.Errorf("%+v: %x, %d", x.l, b, e)
		}
		if b := bytesOf(x.l...); !bytes.Equal(b, want) {
			t.Errorf("%+v: the definitions say %x", x.l, b)
		}
		if l, e := Decode(want); e != api.OK || !slices.Equal(l, x.l) {
			t.Errorf("%x: %+v, %d", want, l, e)
		}
	}
}

// As many infos as may be, each of which is as long as may be.
func TestEncodeOfTheLongest(t *testing.T) {
	var l []api.Info
	for id := range api.MaxInfos {
		l = append(l, chip(255, 240+id))
		l[id].Key = api.GroupPrime - 2
	}
	b, e := Encode(l)
	if e != api.OK || len(b) != 16*25+4 || !bytes.Equal(b, bytesOf(l...)) {
		t.Errorf("%x, %d", b, e)
	}
	if got, e := Decode(b); e != api.OK || !slices.Equal(got, l) {
		t.Error(got, e)
	}
	if b, e := Encode(full()); e != api.OK || !bytes.Equal(b, bytesOf(full()...)) {
		t.Errorf("%x, %d", b, e)
	}
}

func TestEncodeErrors(t *testing.T) {
	expect := func(name string, l []api.Info, want api.Errno) {
		t.Helper()
		if b, e := Encode(l); e != want || len(b) != 0 {
			t.Errorf("%s, %+v: %x, %d", name, l, b, e)
		}
	}
	for _, d := range defects {
		for at := range full() {
			l := full()
			d.make(&l[at])
			expect(d.name, l, d.want)
			expect("one too many", append(slices.Clone(l), active()), api.ErrSize)
			for _, later := range defects {
				if at+1 < len(l) {
					later.make(&l[at+1])
					expect(d.name+" ahead of "+later.name, l, d.want)
				}
			}
		}
	}
	expect("exchanged", []api.Info{active(), terminal()}, api.ErrOrder)
	expect("twice", []api.Info{active(), active()}, api.ErrOrder)
	expect("one too many", append(full(), active()), api.ErrSize)
	expect("the zero info", []api.Info{{}}, api.ErrInvalid)
}

func TestEncodeOfRandomInfos(t *testing.T) {
	r := rand.New(rand.NewSource(5))
	for range 5000 {
		l := randomInfos(r)
		if r.Intn(3) == 0 {
			l = spoil(r, l)
		}
		b, e := Encode(l)
		if wanted := definedError(l); e != wanted {
			t.Fatalf("%+v: %d, not %d", l, e, wanted)
		}
		if e != api.OK {
			if len(b) != 0 {
				t.Errorf("%+v: %x with an error", l, b)
			}
			continue
		}
		if !bytes.Equal(b, bytesOf(l...)) {
			t.Fatalf("%+v: %x", l, b)
		}
		// Decode(Encode(l)) is l.
		if got, e := Decode(b); e != api.OK || !slices.Equal(got, l) {
			t.Fatalf("%+v came back as %+v: %d", l, got, e)
		}
	}
}

// refuse compares what Decode returns with an error, and with the definitions.
func refuse(t *testing.T, name string, b []byte, want api.Errno) {
	t.Helper()
	if _, e := definedDecode(b); e != want {
		t.Errorf("%s, %x: the definitions say %d, not %d", name, b, e, want)
	}
	if l, e := Decode(b); e != want || len(l) != 0 {
		t.Errorf("%s, %x: %+v, %d, not %d", name, b, l, e, want)
	}
}

func TestDecodeOfNoStrictEncodings(t *testing.T) {
	whole := bytesOf(one()...)
	for n := 1; n < len(whole); n++ {
		refuse(t, "cut off", whole[:n], api.ErrTruncated)
	}
	// The errors of tlv.Parse come ahead of the form and the infos.
	for _, x := range []struct {
		text string
		want api.Errno
	}{
		{"31", api.ErrTruncated}, {"3101", api.ErrTruncated}, {"31023001", api.ErrTruncated}, {"3100 31", api.ErrTruncated},
		{"318100", api.ErrLength}, {"31820000", api.ErrLength}, {"31800000", api.ErrLength}, {"31850000000000", api.ErrLength},
		{"31 8113 3011 0609 04007f00070202 0401 020102 02010d", api.ErrLength},
		{"31 14 308111 0609 04007f00070202 0401 020102 02010d", api.ErrLength},
		{"31 14 3012 068109 04007f00070202 0401 020102 02010d", api.ErrLength},
		{"31 80 3011 0609 04007f00070202 0401 020102 02010d 0000", api.ErrLength},
		{"00", api.ErrTag}, {"0000", api.ErrTag}, {"3100 00", api.ErrTag}, {"3102 0000", api.ErrTag},
		{"3100 3100 0000", api.ErrTag}, {"0400 3105", api.ErrTruncated},
		{"31 13 3011 0609 04007f00070202 0401 020102 02020d", api.ErrTruncated},
		{"31 12 3011 0609 04007f00070202 0401 020102 02010d", api.ErrTruncated},
		{"3012 3010 300e 300c 300a 3008 3006 3004 3002 3000", api.ErrDepth},
	} {
		refuse(t, "text", samples.Unhex(x.text), x.want)
	}
	refuse(t, "too many bytes", make([]byte, api.MaxBytes+1), api.ErrSize)
	refuse(t, "many bytes", make([]byte, api.MaxBytes), api.ErrTag)
	var infos []string
	for range 52 {
		infos = append(infos, textOf(chip(1, 0)))
	}
	// With five objects each and the one around them, 51 infos are 256 objects.
	refuse(t, "too many objects", samples.Unhex(samples.Object(0x31, infos...)), api.ErrSize)
	refuse(t, "as many infos as objects may be", samples.Unhex(samples.Object(0x31, infos[:51]...)), api.ErrSize)
	infos[50] = samples.Object(0x30, "0500", "0500", "0500", "0500")
	refuse(t, "as many objects as may be, without form", samples.Unhex(samples.Object(0x31, infos[:51]...)), api.ErrForm)
}

func TestDecodeOfNoObjectOrTwo(t *testing.T) {
	refuse(t, "nil", nil, api.ErrForm)
	refuse(t, "no byte", []byte{}, api.ErrForm)
	for _, text := range []string{
		"0500", "0400", "3000", "3200", "7100", "b100", "1100", "7f3100",
		"3100 3100", "3100 0500", "0500 3100", "3100 3000", "3102 3100", "3102 0500", "3102 3000", "3103 020101",
	} {
		refuse(t, text, samples.Unhex(text), api.ErrForm)
	}
	for _, l := range lists() {
		b := bytesOf(l...)
		for _, more := range []string{"0500", "3100", "3000", "020101"} {
			refuse(t, more+" behind", append(bytes.Clone(b), samples.Unhex(more)...), api.ErrForm)
			refuse(t, more+" ahead", append(samples.Unhex(more), b...), api.ErrForm)
		}
		refuse(t, "twice", append(bytes.Clone(b), b...), api.ErrForm)
		refuse(t, "within another list", samples.Unhex(samples.Object(0x31, samples.Object(0x31, textsOf(l)...))), api.ErrForm)
		refuse(t, "within another info", samples.Unhex(samples.Object(0x30, samples.Object(0x31, textsOf(l)...))), api.ErrForm)
		refuse(t, "the infos only", samples.Unhex(strings.Join(textsOf(l), "")), api.ErrForm)
	}
}

// lists are infos that are valid; each protocol occurs alone, at the first place, at the last one and in the middle.
func lists() [][]api.Info {
	l := [][]api.Info{one(), {generic(), chip(1, 1), chip(2, 2), chip(1, 3)}}
	for i := range one() {
		l = append(l, one()[i:i+1], one()[i:])
	}
	return l
}

func textsOf(l []api.Info) []string {
	var out []string
	for _, x := range l {
		out = append(out, textOf(x))
	}
	return out
}

// places calls f for each object of an encoding of infos, with a function that changes a copy of this one only and returns the encoding.
func places(t *testing.T, l []api.Info, f func(n api.Node, change func(func(n *api.Node)) []byte)) {
	t.Helper()
	whole, e := tlv.Parse(bytesOf(l...), true)
	if e != api.OK {
		t.Fatal(e)
	}
	each(whole, nil, func(path []int) {
		f(*at(whole, path), func(make func(n *api.Node)) []byte {
			changed := samples.CopyNodes(whole)
			make(at(changed, path))
			b, e := tlv.Encode(changed)
			if e != api.OK {
				t.Fatalf("a change at %v of %+v has no encoding: %d", path, l, e)
			}
			return b
		})
	})
}

// each calls f with the path of indexes to each object.
func each(l []api.Node, path []int, f func(path []int)) {
	for i := range l {
		here := append(slices.Clone(path), i)
		f(here)
		each(l[i].Kids, here, f)
	}
}

func at(l []api.Node, path []int) *api.Node {
	n := &l[path[0]]
	for _, i := range path[1:] {
		n = &n.Kids[i]
	}
	return n
}

func TestDecodeOfOtherTags(t *testing.T) {
	primitive := []int{1, 2, 3, 4, 5, 6, 7, 0x10, 0x11, 0x13, 0x1e, 0x42, 0x46, 0x80, 0x81, 0x82, 0x84, 0x86, 0xc2, 0x5f01, 0x5f06, 0x5f1f}
	constructed := []int{0x20, 0x22, 0x24, 0x26, 0x30, 0x31, 0x32, 0x70, 0x71, 0xa0, 0xa1, 0xb0, 0xb1, 0xf1, 0x7f30, 0x7f31, 0x7f4e}
	for _, l := range lists() {
		places(t, l, func(n api.Node, change func(func(n *api.Node)) []byte) {
			tags := primitive
			if tlv.Constructed(n.Tag) {
				tags = constructed
			}
			for _, tag := range tags {
				if tag != n.Tag {
					refuse(t, "another tag", change(func(n *api.Node) { n.Tag = tag }), api.ErrForm)
				}
			}
		})
	}
}

// In bytes, a Value where none may be is that of a primitive tag, and Kids those of a constructed one.
func TestDecodeOfValuesAndKidsWhereNoneMayBe(t *testing.T) {
	for _, l := range lists() {
		places(t, l, func(n api.Node, change func(func(n *api.Node)) []byte) {
			if tlv.Constructed(n.Tag) {
				content, _ := tlv.Encode(n.Kids)
				for _, tag := range []int{n.Tag &^ 0x20, 2, 4, 6} {
					for _, value := range [][]byte{content, nil, {1}, samples.Unhex("04007f000702020201")} {
						refuse(t, "a value", change(func(n *api.Node) { *n = api.Node{Tag: tag, Value: value} }), api.ErrForm)
					}
				}
				return
			}
			for _, tag := range []int{n.Tag | 0x20, 0x30, 0x31} {
				for _, kids := range [][]api.Node{nil, {n}, {n, n}, {{Tag: 5}}} {
					refuse(t, "kids", change(func(n *api.Node) { *n = api.Node{Tag: tag, Kids: kids} }), api.ErrForm)
				}
			}
		})
	}
}

func TestDecodeOfOtherKids(t *testing.T) {
	more := []api.Node{
		{Tag: 5}, {Tag: 2, Value: []byte{0}}, {Tag: 2, Value: []byte{1}}, {Tag: 4, Value: []byte{1, 2, 3, 4}},
		{Tag: 6, Value: samples.Unhex("04007f000702020201")}, {Tag: 0x30}, {Tag: 0x31},
	}
	for _, l := range lists() {
		places(t, l, func(n api.Node, change func(func(n *api.Node)) []byte) {
			if n.Tag != 0x30 {
				return
			}
			refuse(t, "no kid", change(func(n *api.Node) { n.Kids = nil }), api.ErrForm)
			for i := range n.Kids {
				refuse(t, "a kid less", change(func(n *api.Node) { n.Kids = slices.Delete(n.Kids, i, i+1) }), api.ErrForm)
				refuse(t, "a kid twice", change(func(n *api.Node) { n.Kids = slices.Insert(n.Kids, i, n.Kids[i]) }), api.ErrForm)
				refuse(t, "fewer kids", change(func(n *api.Node) { n.Kids = n.Kids[:i] }), api.ErrForm)
				for j := range i {
					// Numbers of the same length are exchanged below.
					if n.Kids[i].Tag != n.Kids[j].Tag {
						refuse(t, "exchanged", change(func(n *api.Node) { n.Kids[i], n.Kids[j] = n.Kids[j], n.Kids[i] }), api.ErrForm)
					}
				}
			}
			for i := range len(n.Kids) + 1 {
				for _, x := range more {
					refuse(t, "a kid more", change(func(n *api.Node) { n.Kids = slices.Insert(n.Kids, i, x) }), api.ErrForm)
				}
			}
		})
	}
	// Objects that are no infos, among those that are.
	for i := range len(one()) + 1 {
		for _, text := range []string{"0500", "3000", "3100", "020101", "30020500", "3003020101", samples.Object(0x31, textOf(active())), samples.Object(0x30, textOf(active()))} {
			refuse(t, text, samples.Unhex(samples.Object(0x31, slices.Insert(textsOf(one()), i, text)...)), api.ErrForm)
		}
	}
}

// Numbers that are exchanged with others of the same length are other infos, and no error of the form.
func TestDecodeOfExchangedNumbers(t *testing.T) {
	for _, x := range []struct {
		text string
		want []api.Info
		e    api.Errno
	}{
		{"31 13 3011 0609 04007f00070202 0401 02010d 020102", []api.Info{{Protocol: 2, Version: 13, Params: 2}}, api.OK},
		{"31 13 3011 0609 04007f00070202 0401 02011f 020120", nil, api.ErrRange},
		{"31 19 3017 0609 04007f00070202 0301 020107 0404 01020304 020103", []api.Info{chip(7, 3)}, api.OK},
		{"31 19 3017 0609 04007f00070202 0301 020100 0404 01020304 020103", nil, api.ErrRange},
	} {
		l, e := Decode(samples.Unhex(x.text))
		if e != x.e || !slices.Equal(l, x.want) {
			t.Errorf("%s: %+v, %d", x.text, l, e)
		}
	}
}

// Each value has just as many bytes as is said, also where fewer or more of them are the same number.
func TestDecodeOfOtherLengthsOfValues(t *testing.T) {
	for _, l := range lists() {
		places(t, l, func(n api.Node, change func(func(n *api.Node)) []byte) {
			if tlv.Constructed(n.Tag) {
				return
			}
			size := len(n.Value)
			for other := range 20 {
				if other != size {
					refuse(t, "zeros", change(func(n *api.Node) { n.Value = make([]byte, other) }), api.ErrForm)
				}
			}
			refuse(t, "a zero ahead", change(func(n *api.Node) { n.Value = append([]byte{0}, n.Value...) }), api.ErrForm)
			refuse(t, "a zero behind", change(func(n *api.Node) { n.Value = append(n.Value, 0) }), api.ErrForm)
			refuse(t, "a byte less ahead", change(func(n *api.Node) { n.Value = n.Value[1:] }), api.ErrForm)
			refuse(t, "a byte less behind", change(func(n *api.Node) { n.Value = n.Value[:size-1] }), api.ErrForm)
			refuse(t, "many bytes", change(func(n *api.Node) { n.Value = samples.Bytes(300) }), api.ErrForm)
			refuse(t, "twice", change(func(n *api.Node) { n.Value = append(n.Value, n.Value...) }), api.ErrForm)
		})
	}
}

func TestDecodeOfOtherIdentifiers(t *testing.T) {
	// The ends of all identifiers, with the numbers of each protocol.
	for _, x := range []struct {
		numbers string
		ends    []int
	}{
		{"020101", []int{0x0201, 0x0501}},
		{"020101 020101", []int{0x0401, 0x0402}},
		{"020101 0404 01020304 020101", []int{0x0301}},
	} {
		for end := range 1 << 16 {
			want, count := api.ErrForm, 0
			if slices.Contains(x.ends, end) {
				want, count = api.OK, 1
			}
			b := samples.Unhex(samples.Object(0x31, samples.Object(0x30, "0609 04007f00070202", samples.Digits(end, 2), x.numbers)))
			if l, e := Decode(b); e != want || len(l) != count {
				t.Fatalf("%x: %+v, %d", b, l, e)
			}
		}
	}
	// Another bit of each byte.
	for _, l := range lists() {
		places(t, l, func(n api.Node, change func(func(n *api.Node)) []byte) {
			if n.Tag != 6 {
				return
			}
			for bit := range 8 * 9 {
				b := change(func(n *api.Node) { n.Value[bit/8] ^= 1 << (bit % 8) })
				want, wanted := definedDecode(b)
				if got, e := Decode(b); e != wanted || !slices.Equal(got, want) || bit < 8*7 && e != api.ErrForm {
					t.Errorf("%x: %+v, %d", b, got, e)
				}
			}
		})
	}
	refuse(t, "zeros", samples.Unhex("31 10 300e 0609 000000000000000000 020101"), api.ErrForm)
}

// The errors of the infos, which are known only where the form is right.
func TestDecodeOfInfosThatAreNotValid(t *testing.T) {
	for _, x := range []struct {
		l    []api.Info
		want api.Errno
	}{
		{[]api.Info{{Protocol: 2}}, api.ErrRange}, {[]api.Info{{Protocol: 3}}, api.ErrRange}, {[]api.Info{{Protocol: 5}}, api.ErrRange}, {[]api.Info{{Protocol: 6}}, api.ErrRange},
		{[]api.Info{{Protocol: 4, Key: key}}, api.ErrRange},
		{[]api.Info{{Protocol: 2, Version: 1, Params: 32}}, api.ErrRange}, {[]api.Info{{Protocol: 3, Version: 1, Params: 255}}, api.ErrRange},
		{[]api.Info{{Protocol: 4, Version: 1}}, api.ErrGroup}, {[]api.Info{{Protocol: 4, Version: 1, Key: 1}}, api.ErrGroup}, {[]api.Info{{Protocol: 4, Version: 1, Key: 2}}, api.ErrGroup},
		{[]api.Info{{Protocol: 4, Version: 1, Key: api.GroupPrime - 1}}, api.ErrGroup}, {[]api.Info{{Protocol: 4, Version: 1, Key: api.GroupPrime}}, api.ErrGroup},
		{[]api.Info{{Protocol: 4, Version: 1, Key: api.GroupPrime + 4}}, api.ErrGroup}, {[]api.Info{{Protocol: 4, Version: 1, Key: 1<<32 - 1}}, api.ErrGroup},
		{[]api.Info{active(), terminal()}, api.ErrOrder}, {[]api.Info{active(), active()}, api.ErrOrder}, {[]api.Info{chip(1, 2), chip(2, 1)}, api.ErrOrder}, {[]api.Info{chip(1, 2), chip(2, 2)}, api.ErrOrder},
		{append(full(), active()), api.ErrSize}, {append(full(), api.Info{Protocol: 2}), api.ErrSize},
		// Where several apply, the first info decides, and for it the first one of its errors.
		{[]api.Info{{Protocol: 4}}, api.ErrRange},
		{[]api.Info{{Protocol: 4, Version: 1}, {Protocol: 2}}, api.ErrGroup},
		{[]api.Info{{Protocol: 2}, {Protocol: 4, Version: 1}}, api.ErrRange},
		{[]api.Info{active(), {Protocol: 4, Version: 1}}, api.ErrGroup},
		{[]api.Info{active(), {Protocol: 4}}, api.ErrRange},
		{[]api.Info{active(), terminal(), {Protocol: 4, Version: 1}}, api.ErrOrder},
		{[]api.Info{{Protocol: 4, Version: 1}, active(), terminal()}, api.ErrGroup},
	} {
		b := bytesOf(x.l...)
		refuse(t, "not valid", b, x.want)
		if e := Valid(x.l); e != x.want {
			t.Errorf("%+v: %d", x.l, e)
		}
		// The form of a later one comes ahead.
		refuse(t, "and without form", samples.Unhex(samples.Object(0x31, append(textsOf(x.l), "3000")...)), api.ErrForm)
		// And a length that is not strict ahead of this.
		refuse(t, "and not strict", samples.Unhex(samples.Object(0x31, append(textsOf(x.l), "3000", "308100")...)), api.ErrLength)
	}
}

// bend changes bytes at random.
func bend(r *rand.Rand, b []byte) []byte {
	b = bytes.Clone(b)
	for range r.Intn(4) {
		switch i := r.Intn(len(b) + 1); {
		case i == len(b):
			b = append(b, byte(r.Intn(256)))
		case r.Intn(8) == 0:
			b = slices.Delete(b, i, i+1)
		case r.Intn(8) == 0:
			b = slices.Insert(b, i, b[i])
		case r.Intn(2) == 0:
			b[i] ^= 1 << r.Intn(8)
		default:
			b[i] = byte(pick(r, 0, 1, 2, 3, 4, 5, 6, 9, 14, 17, 23, 31, 32, 0x30, 0x31, 0x80, 255))
		}
	}
	return b
}

func TestDecodeOfRandomBytes(t *testing.T) {
	r := rand.New(rand.NewSource(6))
	seen := map[api.Errno]int{}
	for range 100000 {
		b := bend(r, bytesOf(randomInfos(r)...))
		want, wanted := definedDecode(b)
		got, e := Decode(b)
		if e != wanted || !slices.Equal(got, want) {
			t.Fatalf("%x: %+v, %d, not %+v, %d", b, got, e, want, wanted)
		}
		seen[e]++
		if e != api.OK {
			continue
		}
		// Encode(Decode(b)) is b.
		if again, e := Encode(got); e != api.OK || !bytes.Equal(again, b) {
			t.Fatalf("%x came back as %x: %d", b, again, e)
		}
	}
	for _, e := range []api.Errno{api.OK, api.ErrForm, api.ErrRange, api.ErrGroup, api.ErrOrder, api.ErrTag, api.ErrLength, api.ErrTruncated} {
		if seen[e] < 50 {
			t.Errorf("the error %d occurred %d times only", e, seen[e])
		}
	}
}

// R2

func TestEncodeSharesNothing(t *testing.T) {
	want := bytesOf(one()...)
	l := room(one())
	first, e := Encode(l)
	if e != api.OK {
		t.Fatal(e)
	}
	second, _ := Encode(l)
	samples.Scribble(first)
	if !slices.Equal(l[:len(l)+20], room(one())[:len(l)+20]) {
		t.Error("the infos are others now", l)
	}
	for i := range l {
		l[i] = api.Info{}
	}
	if !bytes.Equal(second, want) {
		t.Error("the result shares memory with the argument, or with another result")
	}
	// Nor with the table of identifiers.
	if third, e := Encode(one()); e != api.OK || !bytes.Equal(third, want) {
		t.Errorf("%x, %d", third, e)
	}
}

func TestDecodeSharesNothing(t *testing.T) {
	for _, whole := range [][]byte{bytesOf(one()...), bytesOf(full()...), bytesOf(active(), generic()), samples.Unhex("3102 3000"), samples.Unhex("3181")} {
		b := samples.Roomy(whole)
		before := bytes.Clone(b[:cap(b)])
		want, wanted := definedDecode(whole)
		first, _ := Decode(b)
		second, e := Decode(b)
		for i := range first[:cap(first)] {
			first[:cap(first)][i] = api.Info{Protocol: -9}
		}
		if !bytes.Equal(b[:cap(b)], before) {
			t.Errorf("the bytes are others now: %x", b)
		}
		samples.Scribble(b)
		if e != wanted || !slices.Equal(second, want) {
			t.Errorf("%x: %+v, %d", whole, second, e)
		}
	}
}
