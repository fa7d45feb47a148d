package datagroups

import (
	"bytes"
	"math"
	"slices"
	"strings"
	"testing"

	"traveldoc/api"
	"traveldoc/group"
	"traveldoc/samples"
	"traveldoc/securityinfo"
	"traveldoc/tlv"
)

// P15.7

// key is an element whose bytes differ.
const key = 0x01020304

func chipInfo(id int) api.Info {
	return api.Info{Protocol: api.ProtoChip, Version: 1, Key: key, KeyID: id}
}

// allInfos returns an info of each protocol.
func allInfos() []api.Info {
	return []api.Info{
		{Protocol: api.ProtoGeneric, Version: 2, Params: 13}, {Protocol: api.ProtoIntegrated, Version: 1, Params: 31}, chipInfo(7),
		{Protocol: api.ProtoTerminal, Version: 255}, {Protocol: api.ProtoActive, Version: 1},
	}
}

// The objects of these infos, as text.
const (
	genericText    = "30 11 06 09 04007f000702020401 020102 02010d"
	integratedText = "30 11 06 09 04007f000702020402 020101 02011f"
	chipText       = "30 17 06 09 04007f000702020301 020101 040401020304 020107"
	terminalText   = "30 0e 06 09 04007f000702020201 0201ff"
	activeText     = "30 0e 06 09 04007f000702020501 020101"
)

func TestInfos(t *testing.T) {
	for _, x := range []struct {
		l    []api.Info
		want string
	}{
		{nil, "6e 02 31 00"},
		{[]api.Info{}, "6e 02 31 00"},
		{allInfos()[:1], "6e 15 31 13" + genericText},
		{allInfos()[2:3], "6e 1b 31 19" + chipText},
		{allInfos(), "6e 61 31 5f" + genericText + integratedText + chipText + terminalText + activeText},
	} {
		b, e := Infos(x.l)
		written(t, "infos", b, e, x.want, api.OK)
		expect(t, "infos", b, api.OK)
		if back, e := OpenInfos(b); e != api.OK || !slices.Equal(back, x.l) {
			t.Errorf("%v came back as %v: %d", x.l, back, e)
		}
	}
	var full []api.Info
	for id := range api.MaxInfos {
		full = append(full, chipInfo(id))
		b, e := Infos(full)
		list, f := securityinfo.Encode(full)
		if e != api.OK || f != api.OK || !bytes.Equal(b, file(14, textOf(list))) {
			t.Errorf("%d infos: %x, %d and %d", len(full), b, e, f)
		}
		if back, e := OpenInfos(b); e != api.OK || !slices.Equal(back, full) {
			t.Errorf("%d infos came back as %v: %d", len(full), back, e)
		}
	}
}

// badInfos are infos that are not valid, with their error.
type badInfos struct {
	l    []api.Info
	want api.Errno
}

func infoDefects() []badInfos {
	with := func(change func(l []api.Info)) []api.Info {
		l := allInfos()
		change(l)
		return l
	}
	var many []api.Info
	for id := range api.MaxInfos + 1 {
		many = append(many, chipInfo(id))
	}
	return []badInfos{
		{many, api.ErrSize},
		{with(func(l []api.Info) { l[1].Version = 0 }), api.ErrRange},
		{with(func(l []api.Info) { l[0].Params = 32 }), api.ErrRange},
		{with(func(l []api.Info) { l[2].Key = 2 }), api.ErrGroup},
		{with(func(l []api.Info) { l[2].Key = 0 }), api.ErrGroup},
		{with(func(l []api.Info) { l[0], l[1] = l[1], l[0] }), api.ErrOrder},
		{with(func(l []api.Info) { l[3] = l[4] }), api.ErrOrder},
		// The first info with an error decides.
		{with(func(l []api.Info) { l[1].Version, l[2].Key = 0, 2 }), api.ErrRange},
		{with(func(l []api.Info) { l[2].Key, l[3].Version = 2, 0 }), api.ErrGroup},
	}
}

func TestInfosThatAreNotValid(t *testing.T) {
	for _, x := range infoDefects() {
		b, e := Infos(x.l)
		refused(t, "infos", b, e, x.want)
		if securityinfo.Valid(x.l) != x.want {
			t.Error("securityinfo.Valid has another error", x.l)
		}
	}
	// What cannot be written down at all.
	for _, x := range []struct {
		info api.Info
		want api.Errno
	}{
		{api.Info{}, api.ErrInvalid}, {api.Info{Protocol: api.ProtoBasic, Version: 1}, api.ErrInvalid}, {api.Info{Protocol: 7, Version: 1}, api.ErrInvalid},
		{api.Info{Protocol: api.ProtoGeneric, Version: 256}, api.ErrRange}, {api.Info{Protocol: api.ProtoActive, Version: 1, Params: 1}, api.ErrRange},
		{api.Info{Protocol: api.ProtoActive, Version: 1, Key: key}, api.ErrGroup},
	} {
		b, e := Infos([]api.Info{x.info})
		refused(t, "an info", b, e, x.want)
	}
}

// infosText returns the text of the object of infos, valid or not, whose protocols are ProtoGeneric to ProtoActive.
func infosText(l []api.Info) string {
	var content []string
	for _, x := range l {
		numbers := []string{samples.Object(2, samples.Digits(x.Version, 1))}
		switch x.Protocol {
		case api.ProtoGeneric, api.ProtoIntegrated:
			numbers = append(numbers, samples.Object(2, samples.Digits(x.Params, 1)))
		case api.ProtoChip:
			numbers = append(numbers, samples.Object(4, samples.Digits(x.Key, 4)), samples.Object(2, samples.Digits(x.KeyID, 1)))
		}
		end := map[int]string{2: "0401", 3: "0402", 4: "0301", 5: "0201", 6: "0501"}[x.Protocol]
		content = append(content, samples.Object(0x30, samples.Object(6, "04007f00070202"+end), strings.Join(numbers, "")))
	}
	return samples.Object(0x31, content...)
}

func TestOpenInfosThatAreNotValid(t *testing.T) {
	expect(t, "infos", file(14, infosText(allInfos())), api.OK)
	for _, x := range infoDefects() {
		text := infosText(x.l)
		expect(t, "infos", file(14, text), x.want)
		// The form comes ahead of it.
		expect(t, "infos, and another object", file(14, text, "0400"), api.ErrForm)
	}
}

func TestOpenInfosOfOtherForms(t *testing.T) {
	all := infosText(allInfos())
	for _, x := range []struct {
		name string
		text string
		want api.Errno
	}{
		{"no Kid", "", api.ErrForm},
		{"two lists", all + all, api.ErrForm},
		{"two empty lists", "3100 3100", api.ErrForm},
		{"an object ahead", "0400" + all, api.ErrForm},
		{"an object behind", all + "0400", api.ErrForm},
		{"another tag", "3000", api.ErrForm},
		{"a primitive object", "0400", api.ErrForm},
		{"infos without a list", genericText, api.ErrForm},
		{"a list within a list", samples.Object(0x31, all), api.ErrForm},
		{"an identifier that is none", samples.Object(0x31, strings.Replace(terminalText, "0201", "0202", 1)), api.ErrForm},
		{"a number too few", samples.Object(0x31, "30 0b 06 09 04007f000702020201"), api.ErrForm},
		{"a number of two bytes", samples.Object(0x31, "30 0f 06 09 04007f000702020201 02020001"), api.ErrForm},
		// Lengths in other forms, at each object.
		{"a longer length of the list", "31 8110" + terminalText, api.OK},
		{"the indefinite form", "31 80" + terminalText + "0000", api.OK},
		{"a longer length of an info", "31 12 30 82000e 06 09 04007f000702020201 0201ff", api.OK},
		{"an info of the indefinite form", "31 12 30 80 06 09 04007f000702020201 0201ff 0000", api.OK},
		{"a longer length of an identifier", "31 11 30 0f 06 8109 04007f000702020201 0201ff", api.OK},
		{"a longer length of a number", "31 14 30 12 06 09 04007f000702020201 028400000001ff", api.OK},
		{"an empty list with a longer length", "31 8100", api.OK},
		{"a longer length, and no form", "31 8100 0400", api.ErrForm},
		{"a longer length, and no valid info", "31 8110" + strings.Replace(terminalText, "ff", "00", 1), api.ErrRange},
	} {
		expect(t, x.name, file(14, x.text), x.want)
	}
	l, e := OpenInfos(samples.Unhex("6e80 3180 3080 0683000009 04007f000702020201 028101ff 0000 0000 0000"))
	if e != api.OK || !slices.Equal(l, []api.Info{{Protocol: api.ProtoTerminal, Version: 255}}) {
		t.Error(l, e)
	}
}

func TestOpenInfosOfOtherBytes(t *testing.T) {
	b := file(14, infosText(allInfos()))
	for i := range b {
		for value := range 256 {
			changed := slices.Clone(b)
			changed[i] = byte(value)
			agree(t, openerOf(14), "a byte", changed)
		}
	}
	for i := range b {
		agree(t, openerOf(14), "cut off", b[:i])
	}
}

func TestActive(t *testing.T) {
	for _, x := range []struct {
		key  int
		want string
	}{
		{3, "6f 06 04 04 00000003"},
		{4, "6f 06 04 04 00000004"},
		{key, "6f 06 04 04 01020304"},
		{65536, "6f 06 04 04 00010000"},
		{api.GroupPrime - 2, "6f 06 04 04 7fffffb9"},
	} {
		b, e := Active(x.key)
		written(t, "an element", b, e, x.want, api.OK)
		expect(t, "an element", b, api.OK)
		if back, e := OpenActive(b); back != x.key || e != api.OK {
			t.Errorf("%d came back as %d: %d", x.key, back, e)
		}
	}
}

func TestActiveOfNumbersThatAreNoElements(t *testing.T) {
	for _, n := range []int{
		0, 1, 2, 8, -1, -3, -4, math.MinInt, math.MinInt + 4, math.MaxInt, 1<<32 + 4, 1 << 32,
		api.GroupPrime - 4, api.GroupPrime - 1, api.GroupPrime, api.GroupPrime + 3, api.GroupPrime + 4, math.MaxUint32,
	} {
		b, e := Active(n)
		refused(t, "no element", b, e, api.ErrGroup)
		if n >= 0 && n <= math.MaxUint32 {
			expect(t, "no element", file(15, "0404", samples.Digits(n, 4)), api.ErrGroup)
		}
	}
}

func TestActiveOfManyNumbers(t *testing.T) {
	seen := map[api.Errno]int{}
	for i := range 3000 {
		n := i * 715827 % api.GroupPrime
		want, wanted := "6f060404"+samples.Digits(n, 4), api.OK
		if !group.Element(n) {
			want, wanted = "", api.ErrGroup
		}
		b, e := Active(n)
		written(t, "a number", b, e, want, wanted)
		expect(t, "a number", file(15, "0404", samples.Digits(n, 4)), wanted)
		seen[e]++
	}
	if seen[api.OK] < 1000 || seen[api.ErrGroup] < 1000 {
		t.Error(seen)
	}
}

func TestOpenActiveOfOtherForms(t *testing.T) {
	for _, x := range []struct {
		name string
		text string
		want api.Errno
	}{
		{"the form", "0404 00000004", api.OK},
		{"a longer length", "0481 04 00000004", api.OK},
		{"no Kid", "", api.ErrForm},
		{"the key twice", "0404 00000004 0404 00000004", api.ErrForm},
		{"two keys", "0404 00000004 0404 00000003", api.ErrForm},
		{"an object behind", "0404 00000004 0400", api.ErrForm},
		{"an object ahead", "0500 0404 00000004", api.ErrForm},
		{"another tag", "0204 00000004", api.ErrForm},
		{"another tag", "0504 00000004", api.ErrForm},
		{"a tag of two bytes", "1f04 04 00000004", api.ErrForm},
		{"a constructed object", "2406 0404 00000004", api.ErrForm},
		{"an empty constructed object", "2400", api.ErrForm},
		{"the key within a list", "3006 0404 00000004", api.ErrForm},
		{"another tag, and no element", "0204 00000001", api.ErrForm},
		{"another tag of another length", "0200", api.ErrForm},
		{"two keys of another length", "0400 0400", api.ErrForm},
		{"no byte", "0400", api.ErrSize},
		{"a byte", "0401 04", api.ErrSize},
		{"three bytes", "0403 000004", api.ErrSize},
		{"five bytes", "0405 0000000004", api.ErrSize},
		{"eight bytes", "0408 0000000400000004", api.ErrSize},
		{"five bytes that are no element", "0405 0000000001", api.ErrSize},
		{"no element", "0404 00000001", api.ErrGroup},
		{"zero", "0404 00000000", api.ErrGroup},
		{"a great number", "0404 ffffffff", api.ErrGroup},
		{"an element and the prime", "0404 7fffffbf", api.ErrGroup},
	} {
		expect(t, x.name, file(15, x.text), x.want)
	}
	for size := range 300 {
		if size != 4 {
			expect(t, "another length", file(15, samples.Object(4, strings.Repeat("01", size))), api.ErrSize)
		}
	}
	for tag := range 1 << 16 {
		if tlv.Valid(tag) && !tlv.Constructed(tag) && tag != 4 {
			expect(t, "another tag", file(15, samples.Object(tag, "00000004")), api.ErrForm)
		}
	}
}
