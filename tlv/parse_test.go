package tlv

import (
	"bytes"
	"strings"
	"testing"

	"traveldoc/api"
	"traveldoc/samples"
)

// read is an encoding, with the objects or the errors that are read from it: strictly, and otherwise.
type read struct {
	in            string
	want          []api.Node
	strict, loose api.Errno
}

func (x read) test(t *testing.T) {
	t.Helper()
	b := samples.Unhex(x.in)
	for _, strict := range []bool{true, false} {
		e, want := x.loose, x.want
		if strict {
			e = x.strict
		}
		if e != api.OK {
			want = nil
		}
		l, got := Parse(b, strict)
		if got != e || !samples.SameNodes(l, want) {
			t.Errorf("Parse(%.60s, %v) = %v, %d, want %v, %d", x.in, strict, l, got, want, e)
		}
		if got != api.OK && l != nil {
			t.Errorf("Parse(%.60s, %v) returns objects beside an error", x.in, strict)
		}
	}
}

func ok(in string, want ...api.Node) read { return read{in: in, want: want} }

// longer is an encoding that is not strict.
func longer(in string, want ...api.Node) read { return read{in, want, api.ErrLength, api.OK} }

// fails is an encoding that is not read in any way.
func fails(e api.Errno, in string) read { return read{in, nil, e, e} }

// P2.3

func TestParse(t *testing.T) {
	five := branch(0x30, leaf(2, 5))
	for _, x := range []read{
		ok(""),
		ok("04 00", leaf(4)),
		ok("02 01 05", leaf(2, 5)),
		ok("30 00", branch(0x30)),
		ok("30 03 02 01 05", five),
		ok("01 00", leaf(1)),
		ok("fe 00", branch(0xfe)),
		ok("5f 1f 02 01 02", leaf(0x5f1f, 1, 2)),
		ok("1f 01 00", leaf(0x1f01)),
		ok("ff 7f 00", branch(0xff7f)),
		ok("7f 4e 07 5f 29 01 00 7f 49 00", branch(0x7f4e, leaf(0x5f29, 0), branch(0x7f49))),
		ok("30 03 02 01 05 30 03 02 01 05", five, five),
		ok("30 05 30 03 02 01 05 04 00", branch(0x30, five), leaf(4)),
		// The content of a primitive object has no form.
		ok("04 04 00 00 1f 80", leaf(4, 0, 0, 0x1f, 0x80)),
		ok("04 04 30 80 00 00", leaf(4, 0x30, 0x80, 0, 0)),
	} {
		x.test(t)
	}
}

func TestParseOtherForms(t *testing.T) {
	five := branch(0x30, leaf(2, 5))
	for _, x := range []read{
		longer("30 81 03 02 01 05", five),
		longer("30 82 00 03 02 01 05", five),
		longer("30 83 00 00 03 02 01 05", five),
		longer("30 84 00 00 00 03 02 01 05", five),
		longer("30 04 02 81 01 05", five),
		longer("04 81 00", leaf(4)),
		longer("04 84 00 00 00 00", leaf(4)),
		longer("5f 1f 81 01 07", leaf(0x5f1f, 7)),
		longer("04 00 04 81 01 07", leaf(4), leaf(4, 7)),
	} {
		x.test(t)
	}
}

func TestParseLengths(t *testing.T) {
	for _, x := range []struct {
		size   int
		form   string
		strict bool
	}{
		{0, "00", true}, {127, "7f", true}, {127, "81 7f", false}, {127, "82 00 7f", false},
		{128, "81 80", true}, {128, "82 00 80", false}, {128, "83 00 00 80", false}, {128, "84 00 00 00 80", false},
		{255, "81 ff", true}, {255, "82 00 ff", false}, {255, "83 00 00 ff", false},
		{256, "82 01 00", true}, {256, "83 00 01 00", false}, {256, "84 00 00 01 00", false},
		{4000, "82 0f a0", true}, {4000, "83 00 0f a0", false}, {4000, "84 00 00 0f a0", false},
	} {
		b := append(samples.Unhex("04"+x.form), samples.Bytes(x.size)...)
		want := []api.Node{leaf(4, samples.Bytes(x.size)...)}
		if l, e := Parse(b, false); e != api.OK || !samples.SameNodes(l, want) {
			t.Errorf("the length %s of %d bytes: %d", x.form, x.size, e)
		}
		l, e := Parse(b, true)
		if x.strict && (e != api.OK || !samples.SameNodes(l, want)) || !x.strict && (e != api.ErrLength || l != nil) {
			t.Errorf("the length %s of %d bytes, read strictly: %d", x.form, x.size, e)
		}
	}
	for _, x := range []read{
		// These lengths have the shortest form, but there is no such content; or they have not.
		fails(api.ErrTruncated, "04 82 ff ff"),
		fails(api.ErrTruncated, "04 83 01 00 00"),
		fails(api.ErrTruncated, "04 83 ff ff ff"),
		fails(api.ErrTruncated, "04 84 01 00 00 00"),
		fails(api.ErrTruncated, "04 84 7f ff ff ff"),
		fails(api.ErrTruncated, "04 84 80 00 00 00"),
		fails(api.ErrTruncated, "04 84 ff ff ff ff"),
		{"04 83 00 ff ff", nil, api.ErrLength, api.ErrTruncated},
		{"04 84 00 ff ff ff", nil, api.ErrLength, api.ErrTruncated},
	} {
		x.test(t)
	}
}

func TestParseIndefiniteForm(t *testing.T) {
	five := branch(0x30, leaf(2, 5))
	for _, x := range []read{
		longer("30 80 02 01 05 00 00", five),
		longer("30 80 00 00", branch(0x30)),
		longer("7f 4e 80 00 00", branch(0x7f4e)),
		longer("30 80 00 00 04 01 09", branch(0x30), leaf(4, 9)),
		longer("30 80 02 01 05 00 00 30 80 00 00", five, branch(0x30)),
		longer("31 80 30 80 02 01 05 00 00 04 00 00 00", branch(0x31, five, leaf(4))),
		longer("31 80 30 03 02 01 05 04 00 00 00", branch(0x31, five, leaf(4))),
		longer("31 07 30 80 02 01 05 00 00 04 00", branch(0x31, five), leaf(4)),
		longer("31 09 30 80 02 01 05 00 00 04 00", branch(0x31, five, leaf(4))),
		// Two bytes 0 in the content of a Kid do not end it.
		longer("30 80 04 02 00 00 04 01 00 00 00", branch(0x30, leaf(4, 0, 0), leaf(4, 0))),
		longer("30 80 04 81 02 00 00 00 00", branch(0x30, leaf(4, 0, 0))),
	} {
		x.test(t)
	}
	for _, x := range []struct {
		in    string
		loose api.Errno
	}{
		{"30 80", api.ErrTruncated},
		{"30 80 00", api.ErrTruncated},
		{"30 80 02 01 05", api.ErrTruncated},
		{"30 80 02 01 05 00", api.ErrTruncated},
		{"30 80 02", api.ErrTruncated},
		{"30 80 02 01", api.ErrTruncated},
		{"30 80 1f", api.ErrTruncated},
		{"30 80 00 01", api.ErrTag},
		{"30 80 00 02 00 00", api.ErrTag},
		{"30 80 00 80 00 00", api.ErrTag},
		{"30 80 02 01 05 00 01 00 00", api.ErrTag},
		{"30 80 30 80 00 00", api.ErrTruncated},
		{"30 80 30 80 00 00 00", api.ErrTruncated},
		{"30 80 30 80 00 00 00 01", api.ErrTag},
		// Behind the end: the tag 0 where no end is awaited.
		{"30 80 00 00 00 00", api.ErrTag},
		{"30 80 00 00 00", api.ErrTag},
		{"30 80 30 02 00 00 00 00", api.ErrTag},
		// The end has to be in the content of the object around it.
		{"31 04 30 80 00 00", api.OK},
		{"31 03 30 80 00 00", api.ErrTruncated},
		{"31 02 30 80 00 00", api.ErrTruncated},
		{"31 05 30 80 02 00 00 00 00", api.ErrTruncated},
		{"31 80 31 02 30 80 00 00 00 00", api.ErrTruncated},
		{"31 03 30 80 00 01", api.ErrTruncated},
		{"31 05 30 80 00 00 00", api.ErrTag},
	} {
		// Read strictly, 0x80 is an error at once; in "31 04 .." it stands in a Kid.
		if l, e := Parse(samples.Unhex(x.in), false); e != x.loose || e != api.OK && l != nil {
			t.Errorf("Parse(%s) = %v, %d, want %d", x.in, l, e, x.loose)
		}
		if l, e := Parse(samples.Unhex(x.in), true); e != api.ErrLength || l != nil {
			t.Errorf("Parse(%s, strict) = %v, %d, want ErrLength", x.in, l, e)
		}
	}
	for _, x := range []read{
		fails(api.ErrLength, "02 80 00 00"),
		fails(api.ErrLength, "02 80"),
		fails(api.ErrLength, "5f 1f 80 00 00"),
		fails(api.ErrLength, "30 03 02 80 00"),
	} {
		x.test(t)
	}
}

func TestParseRefusesTags(t *testing.T) {
	for _, x := range []read{
		fails(api.ErrTag, "00"),
		fails(api.ErrTag, "00 00"),
		fails(api.ErrTag, "00 01 05"),
		fails(api.ErrTag, "04 00 00 00"),
		fails(api.ErrTag, "04 00 00"),
		fails(api.ErrTag, "30 02 00 00"),
		fails(api.ErrTag, "30 01 00"),
		fails(api.ErrTag, "1f 00 00"),
		fails(api.ErrTag, "1f 80 00"),
		fails(api.ErrTag, "5f 80"),
		fails(api.ErrTag, "5f 81 01 00"),
		fails(api.ErrTag, "7f ff 00"),
		fails(api.ErrTag, "3f 00"),
	} {
		x.test(t)
	}
	for first := range 256 {
		for second := range 256 {
			b := []byte{byte(first), byte(second), 0}
			want := api.ErrTag
			switch {
			case first%32 == 31 && Valid(256*first+second):
				want = api.OK
			case first%32 != 31 && first > 0 && second == 0:
				want = api.ErrTag // of the byte 0 behind the object
			case first%32 != 31 && first > 0:
				continue
			}
			if l, e := Parse(b, true); e != want || e == api.OK && (len(l) != 1 || l[0].Tag != 256*first+second) {
				t.Errorf("Parse(%x) = %v, %d, want %d", b, l, e, want)
			}
		}
	}
}

func TestParseRefusesLengths(t *testing.T) {
	for first := 0x85; first <= 0xff; first++ {
		for _, head := range [][]byte{{4}, {0x30}, {0x5f, 0x1f}, {0x7f, 0x4e}, {4, 0, 4}} {
			b := append(bytes.Clone(head), byte(first))
			for _, b := range [][]byte{b, append(b, make([]byte, 200)...)} {
				for _, strict := range []bool{true, false} {
					if l, e := Parse(b, strict); e != api.ErrLength || l != nil {
						t.Errorf("Parse(%x) = %v, %d, want ErrLength", b, l, e)
					}
				}
			}
		}
	}
}

func TestParseOfCutEncodings(t *testing.T) {
	for _, x := range []struct {
		in    string
		whole []int // where a cut leaves whole objects
	}{
		{"30 03 02 01 05", []int{0, 5}},
		{"7f 4e 07 5f 29 01 00 7f 49 00", []int{0, 10}},
		{"04 01 09 30 05 30 03 02 01 05 5f 1f 00", []int{0, 3, 10, 13}},
		{"30 81 80 04 7e" + strings.Repeat("07", 126), []int{0, 131}},
		{"04 82 01 00" + strings.Repeat("00", 256), []int{0, 260}},
		{"30 80 02 81 01 05 00 00 30 80 31 80 00 00 00 00 04 84 00 00 00 01 05", []int{0, 8, 16, 23}},
	} {
		b := samples.Unhex(x.in)
		for n := range len(b) + 1 {
			want := api.ErrTruncated
			for _, whole := range x.whole {
				if n == whole {
					want = api.OK
				}
			}
			if l, e := Parse(b[:n], false); e != want || e != api.OK && l != nil {
				t.Errorf("Parse of the first %d bytes of %.40s = %v, %d, want %d", n, x.in, l, e, want)
			}
		}
	}
	for _, x := range []read{
		// What is missing in the content of an object may be there behind it.
		fails(api.ErrTruncated, "30 01 02 01 05"),
		fails(api.ErrTruncated, "30 02 02 01 05"),
		fails(api.ErrTruncated, "30 01 1f 01 00"),
		fails(api.ErrTruncated, "30 02 1f 01 00"),
		fails(api.ErrTruncated, "30 03 04 82 01 00"),
		fails(api.ErrTruncated, "30 02 04 81 80"),
		fails(api.ErrTruncated, "30 04 30 03 02 01 05"),
		fails(api.ErrTruncated, "30 05 30 03 02 02 05 00"),
	} {
		x.test(t)
	}
}

func TestParseDepth(t *testing.T) {
	for _, innermost := range []api.Node{leaf(4, 1), branch(0x30)} {
		content := []byte{4, 1, 1}
		if innermost.Tag == 0x30 {
			content = []byte{0x30, 0}
		}
		definite, indefinite := content, content
		for depth := 1; depth <= 12; depth++ {
			l, e := Parse(definite, true)
			m, f := Parse(indefinite, false)
			want := []api.Node{tower(depth, innermost)}
			if depth <= api.MaxDepth && (e != api.OK || f != api.OK || !samples.SameNodes(l, want) || !samples.SameNodes(m, want)) {
				t.Errorf("%d levels: %d, %d", depth, e, f)
			}
			if depth > api.MaxDepth && (e != api.ErrDepth || f != api.ErrDepth || l != nil || m != nil) {
				t.Errorf("%d levels: %d, %d, want ErrDepth", depth, e, f)
			}
			definite = append([]byte{0x30, byte(len(definite))}, definite...)
			indefinite = append(append([]byte{0x30, 0x80}, indefinite...), 0, 0)
		}
	}
	if _, e := Parse(bytes.Repeat([]byte{0x30, 0x80}, 2048), false); e != api.ErrDepth {
		t.Errorf("4096 bytes of beginnings: %d", e)
	}
}

func TestParseCountsAllObjects(t *testing.T) {
	empty := strings.Repeat("04 00 ", 300)
	objects := func(n int) string { return empty[:6*n] }
	for _, x := range []struct {
		name, in string
		want     api.Errno
	}{
		{"MaxNodes objects", objects(256), api.OK},
		{"one more", objects(257), api.ErrSize},
		{"one with Kids", "30 82 01 fe" + objects(255), api.OK},
		{"one with one Kid more", "30 82 02 00" + objects(256), api.ErrSize},
		{"objects behind Kids", "30 81 c8" + objects(100) + objects(155), api.OK},
		{"one more behind Kids", "30 81 c8" + objects(100) + objects(156), api.ErrSize},
		{"indefinite form", "30 80" + objects(255) + "00 00", api.OK},
		{"indefinite form, one Kid more", "30 80" + objects(256) + "00 00", api.ErrSize},
		{"indefinite form, one more behind it", "30 80" + objects(255) + "00 00 04 00", api.ErrSize},
	} {
		if l, e := Parse(samples.Unhex(x.in), false); e != x.want || e != api.OK && l != nil {
			t.Errorf("%s: %d, want %d", x.name, e, x.want)
		}
	}
}

func TestParseCountsBytes(t *testing.T) {
	whole := append([]byte{4, 0x82, 0x0f, 0xfc}, samples.Bytes(4092)...)
	for _, strict := range []bool{true, false} {
		if l, e := Parse(whole, strict); e != api.OK || !samples.SameNodes(l, []api.Node{leaf(4, samples.Bytes(4092)...)}) {
			t.Errorf("4096 bytes: %d", e)
		}
		for _, b := range [][]byte{
			make([]byte, 4097),
			append(bytes.Clone(whole), 0),
			append([]byte{4, 0x82, 0x0f, 0xfd}, samples.Bytes(4093)...),
			bytes.Repeat([]byte{0x1f}, 4097),
			bytes.Repeat([]byte{0xff}, 100000),
		} {
			if l, e := Parse(b, strict); e != api.ErrSize || l != nil {
				t.Errorf("%d bytes: %d, want ErrSize", len(b), e)
			}
		}
	}
}

func TestParseOrderOfErrors(t *testing.T) {
	deep := strings.Repeat("30 80 ", 8)
	full := strings.Repeat("04 00 ", 256)
	for _, x := range []struct {
		in            string
		strict, loose api.Errno
	}{
		// Of one object, from its tag to its content.
		{"1f", api.ErrTruncated, api.ErrTruncated},
		{"00", api.ErrTag, api.ErrTag},
		{"1f 80", api.ErrTag, api.ErrTag},
		{"04", api.ErrTruncated, api.ErrTruncated},
		{"00 85", api.ErrTag, api.ErrTag},
		{"04 85", api.ErrLength, api.ErrLength},
		{"04 80", api.ErrLength, api.ErrLength},
		{"30 80", api.ErrLength, api.ErrTruncated},
		{"04 81", api.ErrTruncated, api.ErrTruncated},
		{"04 82 00", api.ErrTruncated, api.ErrTruncated},
		{"04 84 00 00 00", api.ErrTruncated, api.ErrTruncated},
		{"04 81 05", api.ErrLength, api.ErrTruncated},
		{"04 82 00 80", api.ErrLength, api.ErrTruncated},
		// Of an object that is too deep: depth comes behind its length, and ahead of its content.
		{deep + "00 05", api.ErrLength, api.ErrTag},
		{deep + "04", api.ErrLength, api.ErrTruncated},
		{deep + "04 85", api.ErrLength, api.ErrLength},
		{deep + "04 80", api.ErrLength, api.ErrLength},
		{deep + "04 82 00", api.ErrLength, api.ErrTruncated},
		{deep + "04 81 05", api.ErrLength, api.ErrDepth},
		{deep + "04 05 00", api.ErrLength, api.ErrDepth},
		{deep + "30 80", api.ErrLength, api.ErrDepth},
		{deep + "30 02 00 00", api.ErrLength, api.ErrDepth},
		{deep + "00 00", api.ErrLength, api.ErrTruncated},
		{deep + "00", api.ErrLength, api.ErrTruncated},
		{"30 10 30 0e 30 0c 30 0a 30 08 30 06 30 04 30 02 04 81", api.ErrTruncated, api.ErrTruncated},
		{"30 11 30 0f 30 0d 30 0b 30 09 30 07 30 05 30 03 04 81 05", api.ErrLength, api.ErrDepth},
		{"30 10 30 0e 30 0c 30 0a 30 08 30 06 30 04 30 02 04 05", api.ErrDepth, api.ErrDepth},
		// Of the object number MaxNodes + 1: the number comes behind its length, and ahead of its content.
		{full + "1f", api.ErrTruncated, api.ErrTruncated},
		{full + "00", api.ErrTag, api.ErrTag},
		{full + "04", api.ErrTruncated, api.ErrTruncated},
		{full + "04 85", api.ErrLength, api.ErrLength},
		{full + "04 82 01", api.ErrTruncated, api.ErrTruncated},
		{full + "04 81 05", api.ErrLength, api.ErrSize},
		{full + "04 05", api.ErrSize, api.ErrSize},
		{full + "30 80", api.ErrLength, api.ErrSize},
		{full + "30 02 00 00", api.ErrSize, api.ErrSize},
		// Both: depth is the first one.
		{full[:6*248] + "30 10 30 0e 30 0c 30 0a 30 08 30 06 30 04 30 02 04 05", api.ErrDepth, api.ErrDepth},
		// Of several objects: the first one from the left.
		{"30 02 00 00 04 85", api.ErrTag, api.ErrTag},
		{"04 85 00 00", api.ErrLength, api.ErrLength},
		{"04 01 00 00 00", api.ErrTag, api.ErrTag},
		{"30 05 00 00", api.ErrTruncated, api.ErrTruncated},
		{"30 81 02 00 00", api.ErrLength, api.ErrTag},
		{"30 03 04 81 05 00 00", api.ErrLength, api.ErrTruncated},
		{"04 81 01 05 1f 80", api.ErrLength, api.ErrTag},
		{"1f 80 04 81 01 05", api.ErrTag, api.ErrTag},
	} {
		read{x.in, nil, x.strict, x.loose}.test(t)
	}
}

// P2.4

func TestSize(t *testing.T) {
	for _, x := range []struct {
		in   string
		want int
	}{
		{"7f 4e 82 01 00", 261},
		{"04 00", 2}, {"04 01", 3}, {"04 7f", 129}, {"5f 1f 05", 8}, {"30 03 02 01 05", 5},
		{"04 81 80", 131}, {"04 81 ff", 258}, {"04 82 01 00", 260}, {"04 82 ff ff", 65539},
		{"04 83 01 00 00", 65541}, {"04 83 ff ff ff", 1<<24 + 4}, {"04 84 01 00 00 00", 1<<24 + 6},
		{"04 84 7f ff ff ff", 1<<31 + 5}, {"04 84 80 00 00 00", 1<<31 + 6},
		{"04 84 ff ff ff ff", 1<<32 + 5}, {"5f 1f 84 ff ff ff ff", 1<<32 + 6},
		// Lengths in other forms count with the bytes that they have.
		{"04 81 00", 3}, {"04 81 05", 8}, {"04 82 00 05", 9}, {"04 83 00 00 05", 10}, {"04 84 00 00 00 05", 11},
		// What is behind tag and length does not matter.
		{"30 02 00 00", 4}, {"30 02 ff", 4}, {"04 00 00 00 1f", 2}, {"04 01 07 1f 80 85", 3},
		{"04 00" + strings.Repeat("00", 5000), 2},
	} {
		if n, e := Size(samples.Unhex(x.in)); n != x.want || e != api.OK {
			t.Errorf("Size(%.40s) = %d, %d, want %d", x.in, n, e, x.want)
		}
	}
}

func TestSizeRefuses(t *testing.T) {
	for _, x := range []struct {
		want api.Errno
		in   []string
	}{
		{api.ErrTruncated, []string{"", "1f", "5f", "04", "30", "5f 1f", "04 81", "04 82", "04 82 01", "04 83 01 00", "04 84", "04 84 01 00 00", "7f 4e 82 01"}},
		{api.ErrTag, []string{"00", "00 00", "00 85", "1f 00", "1f 80", "5f 80 05", "5f ff 85", "00 81"}},
		{api.ErrLength, []string{"30 80", "30 80 00 00", "04 80", "04 80 00", "5f 1f 80", "04 85", "04 ff", "30 85 00 00 00 00 01", "7f 4e 88"}},
	} {
		for _, in := range x.in {
			if n, e := Size(samples.Unhex(in)); n != 0 || e != x.want {
				t.Errorf("Size(%s) = %d, %d, want %d", in, n, e, x.want)
			}
		}
	}
}

func TestSizeOfTheFirstObject(t *testing.T) {
	texts(critical, 6, func(b []byte) {
		n, e := Size(b)
		l, f := Parse(b, false)
		if f == api.OK && len(l) == 1 && e == api.OK && n != len(b) {
			t.Fatalf("Size(%x) = %d", b, n)
		}
		if e == api.OK && n <= len(b) && f == api.OK {
			if m, g := Parse(b[:n], false); g != api.OK || len(m) != 1 || !samples.SameNodes(m, l[:1]) {
				t.Fatalf("Size(%x) = %d, but there is %v, %d", b, n, m, g)
			}
		}
		if e == api.OK && n > len(b) && f == api.OK {
			t.Fatalf("Size(%x) = %d, though it is read", b, n)
		}
		if f == api.OK && len(b) > 0 && e != api.OK && (e != api.ErrLength || !bytes.Contains(b, []byte{0x80})) {
			t.Fatalf("Size(%x) returns %d", b, e)
		}
	})
}
