package tlv

import (
	"bytes"
	"testing"

	"traveldoc/api"
	"traveldoc/samples"
)

// P2.2

func TestEncode(t *testing.T) {
	for _, x := range []struct {
		l    []api.Node
		want string
	}{
		{nil, ""},
		{[]api.Node{}, ""},
		{[]api.Node{leaf(4)}, "04 00"},
		{[]api.Node{leaf(2, 5)}, "02 01 05"},
		{[]api.Node{branch(0x30)}, "30 00"},
		{[]api.Node{branch(0x30, leaf(2, 5))}, "30 03 02 01 05"},
		{[]api.Node{leaf(0x5f1f, 1, 2)}, "5f 1f 02 01 02"},
		{[]api.Node{leaf(0x1f01)}, "1f 01 00"},
		{[]api.Node{branch(0x7f4e, leaf(0x5f29, 0), branch(0x7f49))}, "7f 4e 07 5f 29 01 00 7f 49 00"},
		{[]api.Node{leaf(4, 1), leaf(4, 2), leaf(1, 3)}, "04 01 01 04 01 02 01 01 03"},
		{[]api.Node{branch(0x30, branch(0x31, leaf(4, 9)), leaf(5)), leaf(6)}, "30 07 31 03 04 01 09 05 00 06 00"},
		// R3: empty slices are as good as none.
		{[]api.Node{{Tag: 4, Value: []byte{}, Kids: []api.Node{}}}, "04 00"},
		{[]api.Node{{Tag: 0x30, Value: []byte{}, Kids: []api.Node{}}}, "30 00"},
	} {
		if b, e := Encode(x.l); e != api.OK || !bytes.Equal(b, samples.Unhex(x.want)) {
			t.Errorf("Encode(%v) = %x, %d, want %s", x.l, b, e, x.want)
		}
	}
}

func TestEncodeAllTags(t *testing.T) {
	for _, tag := range tags() {
		want := []byte{byte(tag), 0}
		if tag > 255 {
			want = []byte{byte(tag / 256), byte(tag % 256), 0}
		}
		if b, e := Encode([]api.Node{{Tag: tag}}); e != api.OK || !bytes.Equal(b, want) {
			t.Errorf("Encode of the tag %#x = %x, %d", tag, b, e)
		}
	}
}

func TestEncodeLengths(t *testing.T) {
	for _, x := range []struct {
		size int
		head string
	}{
		{0, "04 00"}, {1, "04 01"}, {126, "04 7e"}, {127, "04 7f"},
		{128, "04 81 80"}, {129, "04 81 81"}, {254, "04 81 fe"}, {255, "04 81 ff"},
		{256, "04 82 01 00"}, {257, "04 82 01 01"}, {1000, "04 82 03 e8"}, {4092, "04 82 0f fc"},
	} {
		want := append(samples.Unhex(x.head), samples.Bytes(x.size)...)
		if b, e := Encode([]api.Node{leaf(4, samples.Bytes(x.size)...)}); e != api.OK || !bytes.Equal(b, want) {
			t.Errorf("Encode of %d bytes = %x, %d", x.size, b, e)
		}
	}
	// The Kids of a constructed object count with their own tags and lengths.
	for _, x := range []struct {
		size int
		head string
	}{
		{125, "30 7f 04 7d"}, {126, "30 81 80 04 7e"}, {127, "30 81 81 04 7f"}, {128, "30 81 83 04 81 80"},
		{252, "30 81 ff 04 81 fc"}, {253, "30 82 01 00 04 81 fd"}, {256, "30 82 01 04 04 82 01 00"},
	} {
		want := append(samples.Unhex(x.head), samples.Bytes(x.size)...)
		if b, e := Encode([]api.Node{branch(0x30, leaf(4, samples.Bytes(x.size)...))}); e != api.OK || !bytes.Equal(b, want) {
			t.Errorf("Encode of %d bytes in a constructed object = %x, %d", x.size, b, e)
		}
	}
}

func TestEncodeRefusesTags(t *testing.T) {
	for _, tag := range []int{0, -1, -0x30, 0x1f, 0x3f, 0xff, 0x100, 0x130, 0x3001, 0x5f00, 0x5f80, 0x7fff, 0x1f0101, 1<<32 + 4} {
		for _, l := range [][]api.Node{
			{{Tag: tag}}, {leaf(tag, 1)}, {branch(tag, leaf(4))}, {leaf(4), leaf(tag)}, {branch(0x30, leaf(tag))},
			{{Tag: tag, Value: []byte{1}, Kids: many(1)}},
		} {
			if b, e := Encode(l); e != api.ErrTag || b != nil {
				t.Errorf("Encode(%v) = %x, %d, want ErrTag", l, b, e)
			}
		}
	}
}

func TestEncodeRefusesForms(t *testing.T) {
	for _, l := range [][]api.Node{
		{branch(4, leaf(4))},
		{branch(0x5f1f, branch(0x30))},
		{leaf(0x30, 0)},
		{leaf(0x7f4e, 1)},
		{{Tag: 4, Value: []byte{1}, Kids: many(1)}},
		{{Tag: 0x30, Value: []byte{1}, Kids: many(1)}},
		{leaf(4), branch(0x30, leaf(4), leaf(0x30, 1))},
		// The tags of its Kids come behind it.
		{branch(4, leaf(0))},
		{{Tag: 0x30, Value: []byte{1}, Kids: []api.Node{{Tag: 0}}}},
	} {
		if b, e := Encode(l); e != api.ErrForm || b != nil {
			t.Errorf("Encode(%v) = %x, %d, want ErrForm", l, b, e)
		}
	}
}

func TestEncodeDepth(t *testing.T) {
	for _, innermost := range []api.Node{leaf(4, 1), branch(0x30), branch(0x7f4e)} {
		for depth := 1; depth <= api.MaxDepth; depth++ {
			if _, e := Encode([]api.Node{tower(depth, innermost)}); e != api.OK {
				t.Errorf("Encode of %d levels returns %d", depth, e)
			}
		}
		for _, depth := range []int{api.MaxDepth + 1, api.MaxDepth + 2, 1000} {
			if b, e := Encode([]api.Node{tower(depth, innermost)}); e != api.ErrDepth || b != nil {
				t.Errorf("Encode of %d levels = %x, %d, want ErrDepth", depth, b, e)
			}
		}
	}
}

func TestEncodeCountsAllObjects(t *testing.T) {
	for _, x := range []struct {
		name string
		l    []api.Node
		want api.Errno
	}{
		{"MaxNodes objects", many(256), api.OK},
		{"one more", many(257), api.ErrSize},
		{"one with Kids", []api.Node{branch(0x30, many(255)...)}, api.OK},
		{"one with one Kid more", []api.Node{branch(0x30, many(256)...)}, api.ErrSize},
		{"two with Kids", []api.Node{branch(0x30, many(127)...), branch(0x30, many(127)...)}, api.OK},
		{"two with Kids, and one more", []api.Node{branch(0x30, many(127)...), branch(0x30, many(127)...), leaf(4)}, api.ErrSize},
		{"Kids of Kids", []api.Node{tower(8, branch(0x30)), branch(0x30, branch(0x30, many(246)...))}, api.OK},
		{"Kids of Kids, and one more", []api.Node{tower(8, branch(0x30)), branch(0x30, branch(0x30, many(247)...))}, api.ErrSize},
	} {
		if b, e := Encode(x.l); e != x.want || e != api.OK && b != nil {
			t.Errorf("%s: %x, %d, want %d", x.name, b, e, x.want)
		}
	}
}

func TestEncodeCountsAllBytes(t *testing.T) {
	for _, x := range []struct {
		l    []api.Node
		want int // bytes; 0 for too many
	}{
		{[]api.Node{leaf(4, samples.Bytes(4092)...)}, 4096},
		{[]api.Node{leaf(4, samples.Bytes(4093)...)}, 0},
		{[]api.Node{leaf(0x5f1f, samples.Bytes(4091)...)}, 4096},
		{[]api.Node{leaf(0x5f1f, samples.Bytes(4092)...)}, 0},
		{[]api.Node{branch(0x30, leaf(4, samples.Bytes(4088)...))}, 4096},
		{[]api.Node{branch(0x30, leaf(4, samples.Bytes(4089)...))}, 0},
		{[]api.Node{leaf(4, samples.Bytes(2044)...), leaf(4, samples.Bytes(2044)...)}, 4096},
		{[]api.Node{leaf(4, samples.Bytes(2044)...), leaf(4, samples.Bytes(2045)...)}, 0},
		{[]api.Node{leaf(4, samples.Bytes(4090)...), leaf(5)}, 4096},
		{[]api.Node{leaf(4, samples.Bytes(4091)...), leaf(5)}, 0},
		{[]api.Node{leaf(4, samples.Bytes(70000)...)}, 0},
		{[]api.Node{leaf(4, make([]byte, 1<<24)...)}, 0},
	} {
		b, e := Encode(x.l)
		if x.want > 0 && (e != api.OK || len(b) != x.want) {
			t.Errorf("%d bytes, %d, want %d bytes", len(b), e, x.want)
		}
		if x.want == 0 && (e != api.ErrSize || b != nil) {
			t.Errorf("%d bytes, %d, want ErrSize", len(b), e)
		}
	}
}

func TestEncodeOrderOfErrors(t *testing.T) {
	badTag, badForm := leaf(0), leaf(0x30, 1)
	tooDeep := tower(9, leaf(4))
	big := leaf(4, samples.Bytes(5000)...)
	for i, x := range []struct {
		l    []api.Node
		want api.Errno
	}{
		// Of one object: tag, form, depth.
		{[]api.Node{{Tag: 0x1f, Value: []byte{1}, Kids: many(1)}}, api.ErrTag},
		{[]api.Node{tower(9, badTag)}, api.ErrTag},
		{[]api.Node{tower(9, badForm)}, api.ErrForm},
		{[]api.Node{tower(9, branch(4, badTag))}, api.ErrForm},
		{[]api.Node{tower(9, branch(0x30, badTag))}, api.ErrDepth},
		// Of several objects: the first one, with its Kids ahead of the next one.
		{[]api.Node{badTag, badForm, tooDeep}, api.ErrTag},
		{[]api.Node{badForm, badTag, tooDeep}, api.ErrForm},
		{[]api.Node{tooDeep, badTag, badForm}, api.ErrDepth},
		{[]api.Node{branch(0x30, badForm), badTag}, api.ErrForm},
		{[]api.Node{branch(0x30, badTag), badForm}, api.ErrTag},
		{[]api.Node{branch(0x30, leaf(4), branch(0x31, badForm)), badTag}, api.ErrForm},
		{[]api.Node{{Tag: 4, Kids: []api.Node{badTag}}, badTag}, api.ErrForm},
		// The size is the last one, wherever the others are.
		{append(many(257), badTag), api.ErrTag},
		{append(many(257), badForm), api.ErrForm},
		{append(many(257), tooDeep), api.ErrDepth},
		{[]api.Node{branch(0x30, many(300)...), branch(0x30, badTag)}, api.ErrTag},
		{[]api.Node{big, badTag}, api.ErrTag},
		{[]api.Node{big, badForm}, api.ErrForm},
		{[]api.Node{big, tooDeep}, api.ErrDepth},
		{[]api.Node{big, leaf(4)}, api.ErrSize},
	} {
		if b, e := Encode(x.l); e != x.want || b != nil {
			t.Errorf("%d: Encode = %x, %d, want %d", i, b, e, x.want)
		}
	}
}
