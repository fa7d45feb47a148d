package datagroups

import (
	"math/rand"
	"slices"
	"strings"
	"testing"

	"traveldoc/api"
	"traveldoc/samples"
	"traveldoc/tlv"
)

// P15.6

// tagsOf returns the tags of the details of a group.
func tagsOf(number int) []int {
	return hexNumbers(map[int]string{11: definedPerson, 12: definedDocument}[number])
}

// detailsOf returns details with these tags, with texts that differ.
func detailsOf(tags ...int) []api.Detail {
	var l []api.Detail
	for i, tag := range tags {
		l = append(l, api.Detail{Tag: tag, Text: strings.Repeat("x", i) + string(rune('A'+i%26))})
	}
	return l
}

// detailsFile returns the bytes of a group with these details, whatever they are.
func detailsFile(number int, l ...api.Detail) []byte { return fileOf(number, detailNodes(l...)...) }

// detailNodes returns the objects of such a group.
func detailNodes(l ...api.Detail) []api.Node {
	var list []byte
	var objects []api.Node
	for _, d := range l {
		list = append(list, byte(d.Tag>>8), byte(d.Tag))
		objects = append(objects, leaf(d.Tag, []byte(d.Text)...))
	}
	return append([]api.Node{leaf(0x5c, list...)}, objects...)
}

// both tells the same of Details and, where the tags are those of primitive objects, of OpenDetails.
func both(t *testing.T, name string, number int, l []api.Detail, want api.Errno) {
	t.Helper()
	b, e := Details(number, l)
	if want != api.OK {
		refused(t, name, b, e, want)
	} else if e != api.OK || !slices.Equal(b, detailsFile(number, l...)) {
		t.Errorf("%s, %v in group %d: %x and %d", name, l, number, b, e)
	}
	if definedDetails(number, l) != want {
		t.Errorf("%s: the definitions say %d", name, definedDetails(number, l))
	}
	isOther := func(d api.Detail) bool { return !tlv.Valid(d.Tag) || tlv.Constructed(d.Tag) }
	if slices.ContainsFunc(l, isOther) {
		return
	}
	b = detailsFile(number, l...)
	if len(b) > api.MaxBytes {
		return
	}
	expect(t, name, b, want)
	if want != api.OK {
		return
	}
	if n, back, e := OpenDetails(b); n != number || e != api.OK || !slices.Equal(back, l) {
		t.Errorf("%s, %v in group %d came back as %d, %v and %d", name, l, number, n, back, e)
	}
}

func TestDetails(t *testing.T) {
	for _, x := range []struct {
		number int
		l      []api.Detail
		want   string
	}{
		{11, nil, "6b 02 5c 00"},
		{12, []api.Detail{}, "6c 02 5c 00"},
		{11, []api.Detail{{Tag: 0x5f0e, Text: "AB"}}, "6b 09 5c 02 5f0e 5f0e 02 4142"},
		{12, []api.Detail{{Tag: 0x5f19, Text: "\x00\xff\x80"}}, "6c 0a 5c 02 5f19 5f19 03 00ff80"},
		{
			11,
			[]api.Detail{{Tag: 0x5f42, Text: "1"}, {Tag: 0x5f0e, Text: "2"}, {Tag: 0x5f15, Text: "1"}},
			"6b 14 5c 06 5f42 5f0e 5f15 5f42 01 31 5f0e 01 32 5f15 01 31",
		},
		{12, []api.Detail{{Tag: 0x5f26, Text: "ü"}, {Tag: 0x5f1b, Text: " "}}, "6c 0f 5c 04 5f26 5f1b 5f26 02 c3bc 5f1b 01 20"},
	} {
		b, e := Details(x.number, x.l)
		written(t, "details", b, e, x.want, api.OK)
		both(t, "details", x.number, x.l, api.OK)
	}
	both(t, "all", 11, detailsOf(0x5f0e, 0x5f10, 0x5f11, 0x5f42, 0x5f12, 0x5f13, 0x5f14, 0x5f15), api.OK)
	both(t, "all", 12, detailsOf(0x5f19, 0x5f26, 0x5f1b, 0x5f55), api.OK)
}

func TestDetailsOfEachTag(t *testing.T) {
	for number, own := range map[int][]int{
		11: {0x5f0e, 0x5f10, 0x5f11, 0x5f42, 0x5f12, 0x5f13, 0x5f14, 0x5f15},
		12: {0x5f19, 0x5f26, 0x5f1b, 0x5f55},
	} {
		for tag := range 1 << 16 {
			want := api.ErrTag
			if slices.Contains(own, tag) {
				want = api.OK
			}
			b, e := Details(number, detailsOf(tag))
			if e != want || (len(b) == 0) != (e != api.OK) {
				t.Errorf("%#x in group %d: %x and %d", tag, number, b, e)
			}
			if tag>>8 == 0x5f || tag < 0x200 || want == api.OK {
				both(t, "a tag", number, detailsOf(tag), want)
			}
		}
		for _, tag := range append([]int{-0x5f0e, ^0x5f0e, 0x5f0e0, 0x5f190, 1<<16 + 0x5f19, 1<<32 + 0x5f19, 0x5f0e - 1<<16, 0x5f0e - 1<<32}, far...) {
			b, e := Details(number, detailsOf(tag))
			refused(t, "no tag", b, e, api.ErrTag)
			b, e = Details(number, append(detailsOf(own...), detailsOf(tag)...))
			refused(t, "no tag", b, e, api.ErrTag)
		}
	}
}

// The tags of one group are none of the other's, wherever they are.
func TestDetailsOfTheOtherGroup(t *testing.T) {
	for number, other := range map[int]int{11: 12, 12: 11} {
		for _, tag := range tagsOf(other) {
			both(t, "alone", number, detailsOf(tag), api.ErrTag)
			both(t, "behind all", number, detailsOf(append(tagsOf(number), tag)...), api.ErrTag)
			both(t, "ahead of one", number, detailsOf(tag, tagsOf(number)[0]), api.ErrTag)
		}
	}
}

func TestDetailsTwice(t *testing.T) {
	for _, number := range []int{11, 12} {
		all := tagsOf(number)
		for i, tag := range all {
			for j, other := range all {
				want := api.OK
				if i == j {
					want = api.ErrDuplicate
				}
				both(t, "two", number, detailsOf(tag, other), want)
				if i != j {
					both(t, "between", number, detailsOf(tag, other, tag), api.ErrDuplicate)
					both(t, "behind", number, detailsOf(tag, other, other), api.ErrDuplicate)
				}
			}
			both(t, "behind all", number, detailsOf(append(slices.Clone(all), tag)...), api.ErrDuplicate)
			// The texts do not matter.
			both(t, "the same", number, []api.Detail{{Tag: tag, Text: "A"}, {Tag: tag, Text: "A"}}, api.ErrDuplicate)
		}
	}
}

func TestDetailsOfTexts(t *testing.T) {
	for _, number := range []int{11, 12} {
		for _, tag := range tagsOf(number) {
			for _, size := range []int{0, 1, 2, 50, 98, 99, 100, 101, 127, 128, 256, 4000} {
				want := api.OK
				if size == 0 || size > 99 {
					want = api.ErrSize
				}
				d := api.Detail{Tag: tag, Text: string(samples.Bytes(size))}
				both(t, "a text", number, []api.Detail{d}, want)
				others := slices.DeleteFunc(tagsOf(number), func(other int) bool { return other == tag })
				if size < 1000 {
					both(t, "a text in the middle", number, []api.Detail{{Tag: others[0], Text: "A"}, d, {Tag: others[1], Text: "B"}}, want)
				}
			}
		}
	}
	// A size is one of bytes, not of characters.
	both(t, "characters of two bytes", 11, []api.Detail{{Tag: 0x5f0e, Text: strings.Repeat("ü", 50)}}, api.ErrSize)
	both(t, "characters of two bytes", 11, []api.Detail{{Tag: 0x5f0e, Text: strings.Repeat("ü", 49) + "A"}}, api.OK)
	// The longest file that there is.
	var l []api.Detail
	for _, tag := range tagsOf(11) {
		l = append(l, api.Detail{Tag: tag, Text: strings.Repeat("A", 99)})
	}
	both(t, "the longest", 11, l, api.OK)
}

func TestDetailsOfNumbersOfDetails(t *testing.T) {
	for _, number := range []int{11, 12} {
		tag := tagsOf(number)[0]
		for n := range 40 {
			want := api.ErrDuplicate
			switch {
			case n < 2:
				want = api.OK
			case n > 16:
				want = api.ErrSize
			}
			both(t, "many", number, slices.Repeat(detailsOf(tag), n), want)
		}
		// The number of details comes ahead of all errors of theirs.
		both(t, "17 with another tag", number, slices.Repeat(detailsOf(4), 17), api.ErrSize)
		both(t, "16 with another tag", number, slices.Repeat(detailsOf(4), 16), api.ErrTag)
		both(t, "17 without text", number, make([]api.Detail, 17), api.ErrSize)
		both(t, "16 zero details", number, make([]api.Detail, 16), api.ErrTag)
		both(t, "many zero details", number, make([]api.Detail, 5000), api.ErrSize)
		both(t, "as many as objects may be", number, slices.Repeat(detailsOf(tag), 254), api.ErrSize)
	}
}

func TestDetailsOfOtherNumbers(t *testing.T) {
	for _, number := range around() {
		if number == 11 || number == 12 {
			continue
		}
		// The number comes ahead of the details.
		for _, l := range [][]api.Detail{nil, detailsOf(0x5f0e), detailsOf(0x5f19), detailsOf(4), make([]api.Detail, 17), detailsOf(0x5f0e, 0x5f0e)} {
			b, e := Details(number, l)
			refused(t, "another number", b, e, api.ErrRange)
		}
	}
}

func TestDetailsOrderOfErrors(t *testing.T) {
	long := strings.Repeat("A", 100)
	for _, x := range []struct {
		l    []api.Detail
		want api.Errno
	}{
		// Of one detail: the tag, the same tag, the text. A tag that does not belong to the group is no error of the second one only.
		{[]api.Detail{{Tag: 4, Text: ""}}, api.ErrTag},
		{[]api.Detail{{Tag: 4, Text: "A"}, {Tag: 4, Text: long}}, api.ErrTag},
		{[]api.Detail{{Tag: 0x5f0e, Text: "A"}, {Tag: 0x5f0e, Text: ""}}, api.ErrDuplicate},
		{[]api.Detail{{Tag: 0x5f0e, Text: "A"}, {Tag: 0x5f0e, Text: long}}, api.ErrDuplicate},
		// Of several details, the first one decides.
		{[]api.Detail{{Tag: 0x5f0e, Text: ""}, {Tag: 4, Text: "A"}}, api.ErrSize},
		{[]api.Detail{{Tag: 0x5f0e, Text: ""}, {Tag: 0x5f0e, Text: ""}}, api.ErrSize},
		{[]api.Detail{{Tag: 0x5f0e, Text: long}, {Tag: 0x5f19, Text: "A"}}, api.ErrSize},
		{[]api.Detail{{Tag: 0x5f0e, Text: "A"}, {Tag: 0x5f0e, Text: "A"}, {Tag: 4, Text: "A"}}, api.ErrDuplicate},
		{[]api.Detail{{Tag: 0x5f0e, Text: "A"}, {Tag: 4, Text: "A"}, {Tag: 0x5f0e, Text: "A"}}, api.ErrTag},
		{[]api.Detail{{Tag: 0x5f0e, Text: "A"}, {Tag: 0x5f10, Text: ""}, {Tag: 0x5f0e, Text: "A"}}, api.ErrSize},
		{[]api.Detail{{Tag: 0x5f19, Text: "A"}, {Tag: 0x5f0e, Text: ""}}, api.ErrTag},
	} {
		both(t, "order", 11, x.l, x.want)
		// The form comes ahead of all of them, and another group ahead of the form.
		l := append(detailNodes(x.l...), leaf(0x5f15, 'A'))
		expect(t, "and a list that is too short", fileOf(11, l...), api.ErrForm)
		for _, number := range []int{1, 10, 13, 17, 18} {
			if e := agree(t, openerOf(11), "and another group", fileOf(number, l...)); e != api.ErrTag {
				t.Error(number, e)
			}
		}
	}
}

func TestDetailsOfRandomDetails(t *testing.T) {
	r := rand.New(rand.NewSource(2))
	seen := map[api.Errno]int{}
	for range 8000 {
		number := 11 + r.Intn(2)
		all := tagsOf(number)
		r.Shuffle(len(all), func(i, j int) { all[i], all[j] = all[j], all[i] })
		var l []api.Detail
		for _, tag := range all[:r.Intn(len(all)+1)] {
			l = append(l, api.Detail{Tag: tag, Text: string(samples.Bytes(1 + r.Intn(99)))})
		}
		for range r.Intn(3) {
			if len(l) == 0 {
				continue
			}
			d := &l[r.Intn(len(l))]
			switch r.Intn(4) {
			case 0:
				d.Tag = []int{4, 0x5f0e, 0x5f19, 0x5f16, 0x5f55}[r.Intn(5)]
			case 1:
				d.Text = strings.Repeat("A", []int{0, 1, 99, 100}[r.Intn(4)])
			case 2:
				l = append(l, *d)
			case 3:
				l = append(l, detailsOf(append(tagsOf(11), 4, 5, 6, 7)...)...)
			}
		}
		want := definedDetails(number, l)
		both(t, "random", number, l, want)
		seen[want]++
	}
	for _, e := range []api.Errno{api.OK, api.ErrTag, api.ErrDuplicate, api.ErrSize} {
		if seen[e] < 300 {
			t.Errorf("the error %d occurred %d times only", e, seen[e])
		}
	}
}

func TestOpenDetailsOfOtherForms(t *testing.T) {
	for _, x := range []struct {
		name string
		text string
		want api.Errno
	}{
		{"the form", "5c 04 5f0e 5f10 5f0e 01 41 5f10 01 42", api.OK},
		{"the form of none", "5c 00", api.OK},
		{"no Kid", "", api.ErrForm},
		{"no list", "5f0e 01 41 5f10 01 42", api.ErrForm},
		{"no list, and no detail", "0400", api.ErrForm},
		{"a list behind", "5f0e 01 41 5c 02 5f0e", api.ErrForm},
		{"another tag of the list", "5d 02 5f0e 5f0e 01 41", api.ErrForm},
		{"another tag of the list", "5b 02 5f0e 5f0e 01 41", api.ErrForm},
		{"another tag of the list of two bytes", "5f5c 02 5f0e 5f0e 01 41", api.ErrForm},
		{"a constructed list", "7c 02 0400 5f0e 01 41", api.ErrForm},
		{"an empty constructed list", "7c 00", api.ErrForm},
		{"two lists", "5c 02 5f0e 5c 02 5f0e 5f0e 01 41", api.ErrForm},
		{"a list that is too short", "5c 02 5f0e 5f0e 01 41 5f10 01 42", api.ErrForm},
		{"a list that lacks the first tag", "5c 02 5f10 5f0e 01 41 5f10 01 42", api.ErrForm},
		{"an empty list", "5c 00 5f0e 01 41", api.ErrForm},
		{"a list that is too long", "5c 06 5f0e 5f10 5f11 5f0e 01 41 5f10 01 42", api.ErrForm},
		{"a list without details", "5c 02 5f0e", api.ErrForm},
		{"a list of an odd length", "5c 03 5f0e 5f 5f0e 01 41", api.ErrForm},
		{"a list of an odd length", "5c 03 5f0e 00 5f0e 01 41", api.ErrForm},
		{"a list of an odd length", "5c 01 5f 5f0e 01 41", api.ErrForm},
		{"a list of one byte without details", "5c 01 00", api.ErrForm},
		{"a list of an odd length, and two details", "5c 05 5f0e 5f10 5f 5f0e 01 41 5f10 01 42", api.ErrForm},
		{"a list with a byte ahead", "5c 03 00 5f0e 5f0e 01 41", api.ErrForm},
		{"another order", "5c 04 5f10 5f0e 5f0e 01 41 5f10 01 42", api.ErrForm},
		{"the bytes of a tag exchanged", "5c 02 0e5f 5f0e 01 41", api.ErrForm},
		{"another tag in the list", "5c 02 5f10 5f0e 01 41", api.ErrForm},
		{"another tag in the list, that is none of the group", "5c 02 5f19 5f0e 01 41", api.ErrForm},
		{"another detail, that is none of the group", "5c 02 5f0e 5f19 01 41", api.ErrForm},
		{"an object behind", "5c 02 5f0e 5f0e 01 41 0400", api.ErrForm},
		{"an object between", "5c 02 5f0e 0400 5f0e 01 41", api.ErrForm},
		{"within a list of objects", "5c 02 5f0e a0 04 5f0e 01 41", api.ErrForm},
		// The tag of a constructed object, which is no detail, whatever it contains.
		{"a constructed detail", "5c 02 7f0e 7f0e 00", api.ErrForm},
		{"a constructed detail with Kids", "5c 02 7f0e 7f0e 02 0400", api.ErrForm},
		{"a constructed detail behind another one", "5c 04 5f0e 7f4e 5f0e 01 41 7f4e 00", api.ErrForm},
		{"a constructed detail with a tag of one byte", "5c 02 0030 30 00", api.ErrForm},
		{"a constructed object for a detail", "5c 02 5f0e 7f0e 00", api.ErrForm},
		{"a constructed object in the list only", "5c 02 7f0e 5f0e 01 41", api.ErrForm},
		// Other tags have the form of details, and are none.
		{"a tag of no group", "5c 02 5f16 5f16 01 41", api.ErrTag},
		{"a tag of one byte", "5c 02 0004 04 01 41", api.ErrTag},
		{"a tag of one byte, in one byte", "5c 01 04 04 01 41", api.ErrForm},
		{"a list that has its own tag", "5c 02 005c 5c 02 5f0e", api.ErrTag},
		{"no text", "5c 02 5f0e 5f0e 00", api.ErrSize},
		{"a tag twice", "5c 04 5f0e 5f0e 5f0e 01 41 5f0e 01 42", api.ErrDuplicate},
		// Lengths in other forms.
		{"longer lengths", "5c 8104 5f0e 5f10 5f0e 820001 41 5f10 8400000001 42", api.OK},
	} {
		expect(t, x.name, file(11, x.text), x.want)
		// Of what the tags say, group 12 knows nothing.
		want := x.want
		if want != api.ErrForm && x.text != "5c 00" {
			want = api.ErrTag
		}
		expect(t, x.name, file(12, x.text), want)
	}
}

// Each byte of a file is changed in turn.
func TestOpenDetailsOfOtherBytes(t *testing.T) {
	for _, number := range []int{11, 12} {
		b := detailsFile(number, detailsOf(tagsOf(number)...)...)
		for i := range b {
			for value := range 256 {
				changed := slices.Clone(b)
				changed[i] = byte(value)
				agree(t, openerOf(11), "a byte", changed)
			}
		}
	}
}
