package datagroups

import (
	"math/rand"
	"slices"
	"strings"
	"testing"

	"traveldoc/api"
	"traveldoc/samples"
)

// P15.3

// The objects of group 17 ahead of the list of tags.
const versions = "5f01 04 30313038 5f36 06 303430303030"

// sixteen are the tags of all groups of data.
const sixteen = "61 75 63 76 65 66 67 68 69 6a 6b 6c 6d 6e 6f 70"

func allGroups() []int { return []int{1, 2, 3, 4, 5, 6, 7, 8, 9, 10, 11, 12, 13, 14, 15, 16} }

// common compares what Common returns with what is to be, and with the definitions.
func common(t *testing.T, groups []int, want string, wanted api.Errno) {
	t.Helper()
	if b, e := definedCommon(groups); e != wanted || !slices.Equal(b, samples.Unhex(want)) {
		t.Errorf("%v: the definitions say %x and %d", groups, b, e)
	}
	b, e := Common(groups)
	written(t, "a list of groups", b, e, want, wanted)
}

func TestCommon(t *testing.T) {
	common(t, nil, "60 12"+versions+"5c 00", api.OK)
	common(t, []int{}, "60 12"+versions+"5c 00", api.OK)
	common(t, []int{1, 2, 14}, "60 15"+versions+"5c 03 61 75 6e", api.OK)
	common(t, []int{2, 3, 4}, "60 15"+versions+"5c 03 75 63 76", api.OK)
	common(t, []int{1, 16}, "60 14"+versions+"5c 02 61 70", api.OK)
	common(t, allGroups(), "60 22"+versions+"5c 10"+sixteen, api.OK)
	for i, tag := range strings.Fields(sixteen) {
		common(t, []int{i + 1}, "60 13"+versions+"5c 01"+tag, api.OK)
	}
}

func TestCommonOfOtherNumbers(t *testing.T) {
	for _, number := range around() {
		if number >= 1 && number <= 16 {
			continue
		}
		for _, groups := range [][]int{
			{number}, {number, number}, {1, number}, {16, number}, {number, 1}, {number, 16}, {1, 2, number, 3, 4}, append(allGroups(), number),
		} {
			common(t, groups, "", api.ErrRange)
		}
	}
}

func TestCommonOfOtherOrders(t *testing.T) {
	for a := 1; a <= 16; a++ {
		for b := 1; b <= 16; b++ {
			if a < b {
				continue
			}
			for _, groups := range [][]int{{a, b}, {a, b, 16}, {a, 16, b}, {a, b, b}} {
				common(t, groups, "", api.ErrOrder)
			}
		}
	}
	backwards := allGroups()
	slices.Reverse(backwards)
	common(t, backwards, "", api.ErrOrder)
	common(t, append(allGroups(), 16), "", api.ErrOrder)
	common(t, append(allGroups(), 1), "", api.ErrOrder)
	common(t, slices.Repeat([]int{7}, 5000), "", api.ErrOrder)
	// It is the number that matters, not the tag.
	common(t, []int{2, 3}, "60 14"+versions+"5c 02 75 63", api.OK)
	common(t, []int{3, 2}, "", api.ErrOrder)
	common(t, []int{4, 5}, "60 14"+versions+"5c 02 76 65", api.OK)
}

func TestCommonOrderOfErrors(t *testing.T) {
	for _, x := range []struct {
		groups []int
		want   api.Errno
	}{
		// Of one group, the range comes ahead of the order.
		{[]int{1, 0}, api.ErrRange}, {[]int{5, -5}, api.ErrRange}, {[]int{1, 2, 0}, api.ErrRange},
		// Of several groups, the first one decides.
		{[]int{2, 1, 17}, api.ErrOrder}, {[]int{2, 2, 0}, api.ErrOrder}, {[]int{17, 2, 1}, api.ErrRange}, {[]int{1, 17, 1}, api.ErrRange},
		{[]int{0, 0}, api.ErrRange}, {[]int{18, 17}, api.ErrRange}, {[]int{3, 2, 1}, api.ErrOrder},
	} {
		common(t, x.groups, "", x.want)
	}
}

func TestCommonAndGroupsOfAllSets(t *testing.T) {
	for set := range 1 << 16 {
		var groups []int
		list := ""
		for i, tag := range strings.Fields(sixteen) {
			if set>>i&1 == 1 {
				groups = append(groups, i+1)
				list += tag
			}
		}
		b, e := Common(groups)
		if e != api.OK || !slices.Equal(b, file(17, versions, samples.Object(0x5c, list))) {
			t.Fatalf("%v: %x and %d", groups, b, e)
		}
		if back, e := Groups(b); e != api.OK || !slices.Equal(back, groups) {
			t.Fatalf("%x: %v and %d", b, back, e)
		}
	}
}

func TestCommonOfRandomNumbers(t *testing.T) {
	r := rand.New(rand.NewSource(1))
	seen := map[api.Errno]int{}
	for range 20000 {
		var groups []int
		for n := range 17 {
			if n > 0 && r.Intn(3) == 0 {
				groups = append(groups, n)
			}
		}
		for range r.Intn(3) {
			groups = slices.Insert(groups, r.Intn(len(groups)+1), r.Intn(19))
		}
		want, wanted := definedCommon(groups)
		b, e := Common(groups)
		if e != wanted || !slices.Equal(b, want) {
			t.Fatalf("%v: %x and %d, not %x and %d", groups, b, e, want, wanted)
		}
		seen[e]++
	}
	for _, e := range []api.Errno{api.OK, api.ErrRange, api.ErrOrder} {
		if seen[e] < 1000 {
			t.Errorf("the error %d occurred %d times only", e, seen[e])
		}
	}
}

func TestGroups(t *testing.T) {
	for _, x := range []struct {
		text string
		want []int
	}{
		{"60 12" + versions + "5c 00", nil},
		{"60 13" + versions + "5c 01 61", []int{1}},
		{"60 15" + versions + "5c 03 61 75 6e", []int{1, 2, 14}},
		{"60 14" + versions + "5c 02 75 63", []int{2, 3}},
		{"60 22" + versions + "5c 10" + sixteen, allGroups()},
		// Lengths in other forms.
		{"60 8115" + versions + "5c 03 61 75 6e", []int{1, 2, 14}},
		{"60 80" + versions + "5c 83000003 61 75 6e 0000", []int{1, 2, 14}},
		{"60 1b 5f01 8400000004 30313038 5f36 06 303430303030 5c 820003 61 75 6e", []int{1, 2, 14}},
	} {
		b := samples.Unhex(x.text)
		expect(t, "a list", b, api.OK)
		if got, e := Groups(b); e != api.OK || !slices.Equal(got, x.want) {
			t.Errorf("%s: %v and %d, not %v", x.text, got, e, x.want)
		}
	}
}

func TestGroupsOfOneByte(t *testing.T) {
	for tag := range 256 {
		b := file(17, versions, "5c01", samples.Digits(tag, 1))
		number := definedGroup(tag)
		if number == 0 || number > 16 {
			expect(t, "the tag of no group", b, api.ErrTag)
			continue
		}
		expect(t, "a tag", b, api.OK)
		if got, _ := Groups(b); !slices.Equal(got, []int{number}) {
			t.Error(tag, got)
		}
	}
}

func TestGroupsOfTwoBytes(t *testing.T) {
	for first := range 256 {
		for second := range 256 {
			a, b := definedGroup(first), definedGroup(second)
			want := api.OK
			switch {
			case a == 0, a > 16, b == 0, b > 16:
				want = api.ErrTag
			case a >= b:
				want = api.ErrOrder
			}
			bytes := file(17, versions, "5c02", samples.Digits(first, 1), samples.Digits(second, 1))
			if got, e := Groups(bytes); e != want || (e == api.OK) != slices.Equal(got, []int{a, b}) || e != api.OK && len(got) > 0 {
				t.Errorf("%#x and %#x: %v and %d, not %d", first, second, got, e, want)
			}
		}
	}
}

func TestGroupsOrderOfErrors(t *testing.T) {
	for _, x := range []struct {
		list string
		want api.Errno
	}{
		{"61 61", api.ErrOrder}, {"75 61", api.ErrOrder}, {"63 75", api.ErrOrder}, {"70 61", api.ErrOrder},
		{"60", api.ErrTag}, {"77", api.ErrTag}, {"61 60", api.ErrTag}, {"70 77", api.ErrTag}, {"60 61", api.ErrTag}, {"00", api.ErrTag},
		// The first byte with an error decides.
		{"75 61 60", api.ErrOrder}, {"75 60 61", api.ErrTag}, {"61 61 00", api.ErrOrder}, {"61 00 61", api.ErrTag}, {"61 75 63 63 77", api.ErrOrder},
		// Of one byte, the tag comes ahead of the order.
		{"70 01", api.ErrTag}, {"75 60", api.ErrTag}, {"61 77", api.ErrTag},
		{sixteen + "70", api.ErrOrder}, {sixteen + "60", api.ErrTag},
		{strings.Repeat("61", 3000), api.ErrOrder},
	} {
		expect(t, "a list", file(17, versions, samples.Object(0x5c, x.list)), x.want)
		// The form comes ahead of the list, and another group ahead of the form.
		expect(t, "a list behind which there is more", file(17, versions, samples.Object(0x5c, x.list), "0400"), api.ErrForm)
		expect(t, "a list of another version", file(17, "5f01 04 30313037 5f36 06 303430303030", samples.Object(0x5c, x.list)), api.ErrForm)
		for _, number := range []int{1, 11, 12, 16, 18} {
			if e := agree(t, openerOf(17), "another group", file(number, versions, samples.Object(0x5c, x.list), "0400")); e != api.ErrTag {
				t.Error(number, e)
			}
		}
	}
}

// commonNodes returns the objects of group 17.
func commonNodes() []api.Node {
	return []api.Node{leaf(0x5f01, '0', '1', '0', '8'), leaf(0x5f36, '0', '4', '0', '0', '0', '0'), leaf(0x5c, 0x61, 0x75)}
}

func TestGroupsOfOtherForms(t *testing.T) {
	refuse := func(name string, l []api.Node) {
		t.Helper()
		expect(t, name, fileOf(17, l...), api.ErrForm)
	}
	expect(t, "the form", fileOf(17, commonNodes()...), api.OK)
	refuse("no Kids", nil)
	for i := range 3 {
		refuse("a Kid too few", slices.Delete(commonNodes(), i, i+1))
		refuse("a Kid alone", commonNodes()[i:i+1])
		refuse("a Kid twice", slices.Insert(commonNodes(), i, commonNodes()[i]))
		for j := range i {
			l := commonNodes()
			l[i], l[j] = l[j], l[i]
			refuse("another order", l)
		}
	}
	for i := range 4 {
		for _, more := range []api.Node{leaf(4), leaf(0x5c), leaf(0x5c, 0x61), leaf(0x5f01), branch(0x30), branch(0x60, commonNodes()...)} {
			refuse("a Kid too many", slices.Insert(commonNodes(), i, more))
		}
	}
	refuse("within another file", []api.Node{branch(0x60, commonNodes()...)})
	samples.EachNode(commonNodes(), func(tag int, change func(func(n *api.Node)) []api.Node) {
		for _, other := range []int{4, 1, 0x5b, 0x5c, 0x5d, 0x5f01, 0x5f02, 0x5f35, 0x5f36, 0x5f37, 0x1f01, 0x5f5c, 0x9f36, 0x41} {
			if other != tag {
				refuse("another tag", change(func(n *api.Node) { n.Tag = other }))
			}
		}
		for _, other := range []int{0x7c, 0x7f01, 0x7f36, 0x30} {
			refuse("a constructed object", change(func(n *api.Node) { n.Tag, n.Value = other, nil }))
			refuse("a constructed object with Kids", change(func(n *api.Node) { *n = branch(other, leaf(tag, n.Value...)) }))
		}
		if tag == 0x5c {
			return
		}
		for _, text := range []string{"", "0", "010", "0107", "0109", "0018", "01080", "1108", "0208", "0118", "04000", "040001", "050000", "140000", "0400000", "040100", "400000", "0108\x00", " 108"} {
			refuse("another text", change(func(n *api.Node) { n.Value = []byte(text) }))
		}
		size := 0
		change(func(n *api.Node) { size = len(n.Value) })
		for i := range size {
			for bit := range 8 {
				refuse("another bit", change(func(n *api.Node) { n.Value[i] ^= 1 << bit }))
			}
		}
	})
	// The texts of each other.
	l := commonNodes()
	l[0].Value, l[1].Value = l[1].Value, l[0].Value
	refuse("exchanged texts", l)
}
