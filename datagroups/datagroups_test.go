package datagroups

import (
	"bytes"
	"slices"
	"strings"
	"testing"

	"traveldoc/api"
	"traveldoc/samples"
	"traveldoc/tlv"
)

// Help for the tests of this package.

func leaf(tag int, value ...byte) api.Node { return api.Node{Tag: tag, Value: value} }

func branch(tag int, kids ...api.Node) api.Node { return api.Node{Tag: tag, Kids: kids} }

// around are numbers of groups, and some beside them.
func around() []int {
	l := slices.Clone(far)
	for n := -20; n < 300; n++ {
		l = append(l, n)
	}
	return l
}

// P15.1

func TestTag(t *testing.T) {
	for number, want := range map[int]int{
		1: 0x61, 2: 0x75, 3: 0x63, 4: 0x76, 5: 0x65, 6: 0x66, 7: 0x67, 8: 0x68, 9: 0x69, 10: 0x6a, 11: 0x6b, 12: 0x6c,
		13: 0x6d, 14: 0x6e, 15: 0x6f, 16: 0x70, 17: 0x60, 18: 0x77,
	} {
		if tag, e := Tag(number); tag != want || e != api.OK || definedTag(number) != want {
			t.Errorf("group %d: %#x and %d, not %#x", number, tag, e, want)
		}
	}
	for _, number := range []int{0, 19, -1, -18, 20} {
		if tag, e := Tag(number); tag != 0 || e != api.ErrRange {
			t.Errorf("group %d: %#x and %d", number, tag, e)
		}
	}
}

func TestTagAndGroupOfAnyNumber(t *testing.T) {
	for _, number := range around() {
		want, wanted := definedTag(number), api.OK
		if want == 0 {
			wanted = api.ErrRange
		}
		tag, e := Tag(number)
		if tag != want || e != wanted {
			t.Errorf("group %d: %#x and %d", number, tag, e)
		}
		if e != api.OK {
			continue
		}
		// The tags are those of constructed objects, and each is that of one group only.
		if back, e := Group(tag); back != number || e != api.OK || !tlv.Constructed(tag) {
			t.Errorf("the tag %#x of group %d is that of %d: %d", tag, number, back, e)
		}
	}
	numbers := slices.Clone(far)
	for n := -300; n < 1<<16+300; n++ {
		numbers = append(numbers, n)
	}
	groups := map[int]int{}
	for i, tag := range hexNumbers(definedTags) {
		groups[tag] = 1 + i
	}
	for _, tag := range numbers {
		want, wanted := groups[tag], api.OK
		if want == 0 {
			wanted = api.ErrTag
		}
		if number, e := Group(tag); number != want || e != wanted {
			t.Errorf("tag %#x: %d and %d, not %d", tag, number, e, want)
		}
	}
}

func TestFile(t *testing.T) {
	for _, number := range around() {
		id, short, e := File(number)
		switch {
		case number >= 1 && number <= 16:
			if id != 256+number || short != number || e != api.OK {
				t.Errorf("group %d: %#x, %#x and %d", number, id, short, e)
			}
		case number == 17:
			if id != 0x11e || short != 0x1e || e != api.OK {
				t.Errorf("group 17: %#x, %#x and %d", id, short, e)
			}
		case number == 18:
			if id != 0x11d || short != 0x1d || e != api.OK {
				t.Errorf("group 18: %#x, %#x and %d", id, short, e)
			}
		default:
			if id != 0 || short != 0 || e != api.ErrRange {
				t.Errorf("group %d: %#x, %#x and %d", number, id, short, e)
			}
		}
	}
}

// P15.2

func TestWrap(t *testing.T) {
	for number := 1; number <= 18; number++ {
		tag := strings.Fields(definedTags)[number-1]
		for _, x := range []struct {
			l    []api.Node
			want string
		}{
			{nil, "00"},
			{[]api.Node{}, "00"},
			{[]api.Node{leaf(4)}, "02 0400"},
			{[]api.Node{leaf(0x5f1f, 7, 8)}, "05 5f1f 02 0708"},
			{[]api.Node{leaf(4, 1), branch(0x30, leaf(2, 5)), leaf(4, 1)}, "0b 040101 3003020105 040101"},
			{[]api.Node{branch(0x61), branch(definedTag(number), leaf(5))}, "06 6100" + tag + "020500"},
			{slices.Repeat([]api.Node{leaf(4)}, 63), "7e" + strings.Repeat("0400", 63)},
			{slices.Repeat([]api.Node{leaf(4)}, 64), "8180" + strings.Repeat("0400", 64)},
			{slices.Repeat([]api.Node{leaf(4)}, 255), "8201fe" + strings.Repeat("0400", 255)},
		} {
			b, e := Wrap(number, x.l)
			written(t, "group "+tag, b, e, tag+x.want, api.OK)
			agree(t, openers()[0], "what was written", b)
		}
	}
}

// tower returns objects within each other, so many levels of them.
func tower(levels int, innermost api.Node) []api.Node {
	n := innermost
	for range levels - 1 {
		n = branch(0x30, n)
	}
	return []api.Node{n}
}

func TestWrapOfKidsThatAreRefused(t *testing.T) {
	many := func(n int) []api.Node { return slices.Repeat([]api.Node{leaf(4)}, n) }
	for _, x := range []struct {
		name string
		l    []api.Node
		want api.Errno
	}{
		{"a tag that is none", []api.Node{leaf(0)}, api.ErrTag},
		{"the zero object", []api.Node{{}}, api.ErrTag},
		{"a tag that is none, behind others", []api.Node{leaf(4), branch(0x30, leaf(0x5f80))}, api.ErrTag},
		{"a primitive object with Kids", []api.Node{branch(4, leaf(4))}, api.ErrForm},
		{"a constructed object with a Value", []api.Node{leaf(0x30, 1)}, api.ErrForm},
		{"as many levels as may be", tower(7, leaf(4)), api.OK},
		{"a level more", tower(8, leaf(4)), api.ErrDepth},
		{"many levels more", tower(200, branch(0x30)), api.ErrDepth},
		{"as many objects as may be", many(255), api.OK},
		{"one more", many(256), api.ErrSize},
		{"one more below", append(many(253), branch(0x30, leaf(4), leaf(4))), api.ErrSize},
		{"as many bytes as may be", []api.Node{leaf(4, samples.Bytes(4088)...)}, api.OK},
		{"a byte more", []api.Node{leaf(4, samples.Bytes(4089)...)}, api.ErrSize},
		{"many bytes more", []api.Node{leaf(4, samples.Bytes(70000)...)}, api.ErrSize},
		{"too many bytes, and a tag that is none", []api.Node{leaf(4, samples.Bytes(5000)...), leaf(0)}, api.ErrTag},
	} {
		for _, number := range []int{1, 9, 16, 17, 18} {
			b, e := Wrap(number, x.l)
			if e != x.want || (len(b) == 0) != (e != api.OK) {
				t.Errorf("%s in group %d: %x and %d, not %d", x.name, number, b, e, x.want)
			}
			if e == api.OK && !bytes.Equal(b, fileOf(number, x.l...)) {
				t.Errorf("%s in group %d: %x", x.name, number, b)
			}
		}
		// The number comes ahead of the objects.
		for _, number := range append([]int{0, 19, -1}, far...) {
			b, e := Wrap(number, x.l)
			refused(t, x.name, b, e, api.ErrRange)
		}
	}
}

func TestWrapOfOtherNumbers(t *testing.T) {
	for _, number := range around() {
		b, e := Wrap(number, []api.Node{leaf(4, 1)})
		if tag := definedTag(number); tag != 0 {
			written(t, "a group", b, e, samples.Object(tag, "040101"), api.OK)
			continue
		}
		refused(t, "no group", b, e, api.ErrRange)
	}
}

// R1: objects that contain themselves are beyond R10; the call has to come back all the same.
func TestWrapOfObjectsThatContainThemselves(t *testing.T) {
	l := []api.Node{{Tag: 0x30}, {Tag: 0x30}}
	l[0].Kids = l
	b, e := Wrap(1, l)
	refused(t, "it contains itself", b, e, api.ErrDepth)
}

func TestOpen(t *testing.T) {
	for number := 1; number <= 18; number++ {
		tag := strings.Fields(definedTags)[number-1]
		for _, x := range []struct {
			text string
			want []api.Node
		}{
			{"00", nil},
			{"02 0400", []api.Node{leaf(4)}},
			{"05 5f1f 02 0708", []api.Node{leaf(0x5f1f, 7, 8)}},
			{"0b 040101 3003020105 040101", []api.Node{leaf(4, 1), branch(0x30, leaf(2, 5)), leaf(4, 1)}},
			{"06 6100 6b020500", []api.Node{branch(0x61), branch(0x6b, leaf(5))}},
			{"8180" + strings.Repeat("0400", 64), slices.Repeat([]api.Node{leaf(4)}, 64)},
			// Lengths in longer forms, and in none that is definite.
			{"8100", nil},
			{"80 0000", nil},
			{"84 00000002 0400", []api.Node{leaf(4)}},
			{"80 3080 02820001 05 0000 0483000000 0000", []api.Node{branch(0x30, leaf(2, 5)), leaf(4)}},
		} {
			b := samples.Unhex(tag + x.text)
			n, l, e := Open(b)
			if n != number || e != api.OK || !samples.SameNodes(l, x.want) {
				t.Errorf("%x: %d, %s and %d", b, n, samples.TextOfNodes(l), e)
			}
			agree(t, openers()[0], "a file", b)
		}
	}
}

// broken are bytes that Open refuses, so that all openers do.
func broken() map[string]api.Errno {
	return map[string]api.Errno{
		// Bytes that are no encoding.
		"61":                                    api.ErrTruncated,
		"6102 04":                               api.ErrTruncated,
		"6102 0401":                             api.ErrTruncated,
		"6180 0400 00":                          api.ErrTruncated,
		"6182 00":                               api.ErrTruncated,
		"5f":                                    api.ErrTruncated,
		"00":                                    api.ErrTag,
		"00 00":                                 api.ErrTag,
		"6102 0000":                             api.ErrTag,
		"6103 5f8000":                           api.ErrTag,
		"6185 0000000000":                       api.ErrLength,
		"6102 0480":                             api.ErrLength,
		"61ff":                                  api.ErrLength,
		strings.Repeat("6180", 9):               api.ErrDepth,
		samples.Object(0x61, nested(9)):         api.ErrDepth,
		samples.Object(0x61, repeat(256)):       api.ErrSize,
		samples.Object(0x61, zeros(4093)):       api.ErrSize,
		strings.Repeat("00", 4097):              api.ErrSize,
		strings.Repeat("6100", 2049):            api.ErrSize,
		strings.Repeat("6100", 257):             api.ErrSize,
		"6100 61":                               api.ErrTruncated,
		"6100 00":                               api.ErrTag,
		"6100 6102 0401":                        api.ErrTruncated,
		"0400 6180":                             api.ErrTruncated,
		"30020480" + samples.Object(0x61, "00"): api.ErrLength,
		// No object, or more than one.
		"":                          api.ErrForm,
		"6100 6100":                 api.ErrForm,
		"6100 7500":                 api.ErrForm,
		"0400 0400":                 api.ErrForm,
		"0400 6100":                 api.ErrForm,
		"6100 0400":                 api.ErrForm,
		"6100 5f1f00 6100":          api.ErrForm,
		"6180 0000 6180 0000":       api.ErrForm,
		strings.Repeat("6100", 256): api.ErrForm,
		// An object whose tag is that of no group.
		"0400":                api.ErrTag,
		"6200":                api.ErrTag,
		"6400":                api.ErrTag,
		"7100":                api.ErrTag,
		"7400":                api.ErrTag,
		"7800":                api.ErrTag,
		"4100":                api.ErrTag,
		"3000":                api.ErrTag,
		"7f6100":              api.ErrTag,
		"7f7500":              api.ErrTag,
		"5f1f00":              api.ErrTag,
		"30 02 6100":          api.ErrTag,
		"3080 6180 0000 0000": api.ErrTag,
		"04 02 6100":          api.ErrTag,
	}
}

// nested returns the text of so many objects, each within the one before.
func nested(levels int) string {
	text := ""
	for range levels {
		text = samples.Object(0x30, text)
	}
	return text
}

// repeat returns the text of so many objects.
func repeat(n int) string { return strings.Repeat("0400", n) }

// zeros returns the text of an object with so many bytes.
func zeros(n int) string { return samples.Object(4, strings.Repeat("00", n-4)) }

func TestOpenersOfWhatOpenRefuses(t *testing.T) {
	for text, want := range broken() {
		for _, o := range openers() {
			if e := agree(t, o, "refused", samples.Unhex(text)); e != want {
				t.Errorf("%s of %.40s: %d, not %d", o.name, text, e, want)
			}
		}
	}
	for _, o := range openers() {
		if _, e := o.open(nil); e != api.ErrForm {
			t.Error(o.name, e)
		}
	}
}

func TestOpenOfEachTag(t *testing.T) {
	for tag := range 1 << 16 {
		if !tlv.Valid(tag) {
			continue
		}
		b := samples.Unhex(samples.Object(tag, ""))
		number, l, e := Open(b)
		want := definedGroup(tag)
		if number != want || len(l) != 0 || (e != api.OK) != (want == 0) || want == 0 && e != api.ErrTag {
			t.Errorf("%x: %d, %v and %d", b, number, l, e)
		}
	}
}

func TestOpenOrderOfErrors(t *testing.T) {
	for _, x := range []struct {
		text string
		want api.Errno
	}{
		// The encoding, the number of objects, the tag.
		{"0400 0400 00", api.ErrTag},
		{"0400 0400 04", api.ErrTruncated},
		{"0400 0480", api.ErrLength},
		{"0400 0400", api.ErrForm},
		{"0400", api.ErrTag},
	} {
		for _, o := range openers() {
			if e := agree(t, o, "order", samples.Unhex(x.text)); e != x.want {
				t.Errorf("%s of %s: %d, not %d", o.name, x.text, e, x.want)
			}
		}
	}
}

// What is written is opened again, and the objects are those that were given.
func TestOpenOfWrap(t *testing.T) {
	for number := 1; number <= 18; number++ {
		for _, l := range [][]api.Node{
			nil, {leaf(4)}, {leaf(4, 1, 2), branch(0x30), leaf(0x5f1f, samples.Bytes(300)...)}, {branch(0x60, leaf(2)), branch(0x77, branch(0x61, leaf(4, 9)))},
		} {
			b, e := Wrap(number, l)
			if e != api.OK {
				t.Fatal(e)
			}
			n, back, e := Open(b)
			if n != number || e != api.OK || !samples.SameNodes(back, l) {
				t.Errorf("group %d: %d, %s and %d", number, n, samples.TextOfNodes(back), e)
			}
		}
	}
}
