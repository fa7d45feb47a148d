package datagroups

import (
	"encoding/hex"
	"fmt"
	"math"
	"regexp"
	"slices"
	"strconv"
	"strings"
	"testing"

	"traveldoc/api"
	"traveldoc/biometrics"
	"traveldoc/group"
	"traveldoc/samples"
	"traveldoc/securityinfo"
	"traveldoc/tlv"
	"traveldoc/zone"
)

// The chapter's definitions, written out once more for the tests of this package: tags are looked up in lists of text, and the objects of a file are written as text, whose form is that of regular expressions. What belongs to lower layers is taken from them.

const (
	// definedTags are those of the groups from 1 to 18.
	definedTags     = "61 75 63 76 65 66 67 68 69 6a 6b 6c 6d 6e 6f 70 60 77"
	definedPerson   = "5f0e 5f10 5f11 5f42 5f12 5f13 5f14 5f15"
	definedDocument = "5f19 5f26 5f1b 5f55"
)

// far are numbers that are neither groups nor tags.
var far = []int{math.MinInt, math.MinInt + 1, -1 << 32, 1 - 1<<32, -0x61, -256, -18, -17, -1, 1 << 32, 1<<32 + 1, 1<<32 + 0x61, 1<<16 + 0x5f0e, 1<<32 + 0x5f0e, math.MaxInt - 1, math.MaxInt}

func hexNumber(text string) int {
	n, err := strconv.ParseInt(text, 16, 64)
	if err != nil {
		panic(err)
	}
	return int(n)
}

// hexNumbers reads a list of numbers.
func hexNumbers(text string) []int {
	var l []int
	for word := range strings.FieldsSeq(text) {
		l = append(l, hexNumber(word))
	}
	return l
}

// definedTag is the tag of a group, or 0.
func definedTag(number int) int {
	l := hexNumbers(definedTags)
	if number < 1 || number > len(l) {
		return 0
	}
	return l[number-1]
}

// definedGroup is the number of a tag, or 0.
func definedGroup(tag int) int { return 1 + slices.Index(hexNumbers(definedTags), tag) }

// file returns the bytes of a group with this content, which is text.
func file(number int, content ...string) []byte {
	return samples.Unhex(samples.Object(definedTag(number), content...))
}

// fileOf returns the bytes of a group with these objects.
func fileOf(number int, l ...api.Node) []byte {
	return samples.Unhex(encodedText([]api.Node{{Tag: definedTag(number), Kids: l}}))
}

// encodedText returns the encoding of objects as text.
func encodedText(l []api.Node) string {
	var out strings.Builder
	for _, n := range l {
		out.WriteString(samples.Object(n.Tag, textOf(n.Value), encodedText(n.Kids)))
	}
	return out.String()
}

// textOf returns bytes as hexadecimal text.
func textOf(b []byte) string { return hex.EncodeToString(b) }

// definedOpen is P15.2.
func definedOpen(b []byte) (int, []api.Node, api.Errno) {
	l, e := tlv.Parse(b, false)
	switch {
	case e != api.OK:
		return 0, nil, e
	case len(l) != 1:
		return 0, nil, api.ErrForm
	case definedGroup(l[0].Tag) == 0:
		return 0, nil, api.ErrTag
	}
	return definedGroup(l[0].Tag), l[0].Kids, api.OK
}

// definedCommon is P15.3. The bytes of its texts are written as those of the characters 0, 1, 4 and 8.
func definedCommon(groups []int) ([]byte, api.Errno) {
	var list string
	last := -1
	for _, number := range groups {
		if number <= 0 || number >= 17 {
			return nil, api.ErrRange
		}
		if last >= number {
			return nil, api.ErrOrder
		}
		last = number
		list += strings.Fields(definedTags)[number-1]
	}
	return file(17, "5f01 04 30313038", "5f36 06 303430303030", samples.Object(0x5c, list)), api.OK
}

var commonForm = regexp.MustCompile(`^5f01\[30313038\]\(\)5f36\[303430303030\]\(\)5c\[([0-9a-f]*)\]\(\)$`)

func definedGroups(b []byte) ([]int, api.Errno) {
	number, l, e := definedOpen(b)
	if e != api.OK {
		return nil, e
	}
	m := commonForm.FindStringSubmatch(samples.TextOfNodes(l))
	switch {
	case number != 17:
		return nil, api.ErrTag
	case m == nil:
		return nil, api.ErrForm
	}
	var groups []int
	for _, tag := range samples.Unhex(m[1]) {
		n := definedGroup(int(tag))
		if n == 0 || n == 17 || n == 18 {
			return nil, api.ErrTag
		}
		if len(groups) > 0 && slices.Max(groups) >= n {
			return nil, api.ErrOrder
		}
		groups = append(groups, n)
	}
	return groups, api.OK
}

var zoneForm = regexp.MustCompile(`^5f1f\[([0-9a-f]*)\]\(\)$`)

// definedOpenZone is P15.4.
func definedOpenZone(b []byte) (api.Zone, api.Errno) {
	number, l, e := definedOpen(b)
	if e != api.OK {
		return api.Zone{}, e
	}
	m := zoneForm.FindStringSubmatch(samples.TextOfNodes(l))
	switch {
	case number != 1:
		return api.Zone{}, api.ErrTag
	case m == nil:
		return api.Zone{}, api.ErrForm
	}
	text := string(samples.Unhex(m[1]))
	switch len(text) {
	case 90:
		return zone.Parse([]string{text[:30], text[30:60], text[60:]})
	case 72:
		return zone.Parse([]string{text[:36], text[36:]})
	case 88:
		return zone.Parse([]string{text[:44], text[44:]})
	}
	return api.Zone{}, api.ErrSize
}

// definedOther reports whether a template has another kind than those of the group.
func definedOther(number int, l []api.Template) bool {
	for _, x := range l {
		if number != map[int]int{api.TemplateFace: 2, api.TemplateFinger: 3, api.TemplateIris: 4}[x.Kind] {
			return true
		}
	}
	return false
}

// definedOpenBiometric is P15.5.
func definedOpenBiometric(b []byte) (int, []api.Template, api.Errno) {
	number, objects, e := definedOpen(b)
	if e != api.OK {
		return 0, nil, e
	}
	if number != 2 && number != 3 && number != 4 {
		return 0, nil, api.ErrTag
	}
	l, e := biometrics.Decode(objects)
	if e != api.OK {
		return 0, nil, e
	}
	if definedOther(number, l) {
		return 0, nil, api.ErrInvalid
	}
	return number, l, api.OK
}

// definedDetails is the error of Details for a group that has details.
func definedDetails(number int, l []api.Detail) api.Errno {
	if len(l) >= 17 {
		return api.ErrSize
	}
	left := hexNumbers(map[int]string{11: definedPerson, 12: definedDocument}[number])
	var had []int
	for _, d := range l {
		i := slices.Index(left, d.Tag)
		switch {
		case slices.Contains(had, d.Tag):
			return api.ErrDuplicate
		case i < 0:
			return api.ErrTag
		case d.Text == "" || len(d.Text) >= 100:
			return api.ErrSize
		}
		had = append(had, d.Tag)
		left = slices.Delete(left, i, i+1)
	}
	return api.OK
}

var (
	detailForm  = regexp.MustCompile(`([0-9a-f]+)\[([0-9a-f]*)\]\(\)`)
	detailsForm = regexp.MustCompile(`^5c\[((?:[0-9a-f]{4})*)\]\(\)((?:[0-9a-f]+\[[0-9a-f]*\]\(\))*)$`)
)

// definedOpenDetails is P15.6.
func definedOpenDetails(b []byte) (int, []api.Detail, api.Errno) {
	number, objects, e := definedOpen(b)
	if e != api.OK {
		return 0, nil, e
	}
	if number != 11 && number != 12 {
		return 0, nil, api.ErrTag
	}
	m := detailsForm.FindStringSubmatch(samples.TextOfNodes(objects))
	if m == nil {
		return 0, nil, api.ErrForm
	}
	var l []api.Detail
	list := ""
	for _, x := range detailForm.FindAllStringSubmatch(m[2], -1) {
		tag := samples.Digits(hexNumber(x[1]), 2)
		list += tag
		// The tag of a constructed object has a digit in which the bit with the value 2 is set: the first of its first byte.
		first := strings.TrimPrefix(tag, "00")
		if digit := hexNumber(first[:1]); digit%4 >= 2 {
			return 0, nil, api.ErrForm
		}
		l = append(l, api.Detail{Tag: hexNumber(tag), Text: string(samples.Unhex(x[2]))})
	}
	if list != m[1] {
		return 0, nil, api.ErrForm
	}
	if e := definedDetails(number, l); e != api.OK {
		return 0, nil, e
	}
	return number, l, api.OK
}

// definedOpenInfos is P15.7.
func definedOpenInfos(b []byte) ([]api.Info, api.Errno) {
	number, objects, e := definedOpen(b)
	if e != api.OK {
		return nil, e
	}
	if number != 14 {
		return nil, api.ErrTag
	}
	return securityinfo.Decode(samples.Unhex(encodedText(objects)))
}

var activeForm = regexp.MustCompile(`^4\[([0-9a-f]*)\]\(\)$`)

// definedOpenActive is P15.7.
func definedOpenActive(b []byte) (int, api.Errno) {
	number, objects, e := definedOpen(b)
	if e != api.OK {
		return 0, e
	}
	if number != 15 {
		return 0, api.ErrTag
	}
	m := activeForm.FindStringSubmatch(samples.TextOfNodes(objects))
	switch {
	case m == nil:
		return 0, api.ErrForm
	case len(m[1]) != 8:
		return 0, api.ErrSize
	case !group.Element(hexNumber(m[1])):
		return 0, api.ErrGroup
	}
	return hexNumber(m[1]), api.OK
}

// opener is a function that opens a file: the groups that it opens, what it returns, and what the chapter says of it. Results are text, in which nil and empty slices are equal.
type opener struct {
	name    string
	groups  []int
	open    func(b []byte) (string, api.Errno)
	defined func(b []byte) (string, api.Errno)
}

// one makes an opener of functions with one result.
func one[T any](name string, open, defined func(b []byte) (T, api.Errno), groups ...int) opener {
	text := func(f func(b []byte) (T, api.Errno)) func(b []byte) (string, api.Errno) {
		return func(b []byte) (string, api.Errno) {
			x, e := f(b)
			return fmt.Sprintf("%+v", x), e
		}
	}
	return opener{name, groups, text(open), text(defined)}
}

// two makes an opener of functions that return the number of the group, too.
func two[T any](name string, open, defined func(b []byte) (int, []T, api.Errno), groups ...int) opener {
	text := func(f func(b []byte) (int, []T, api.Errno)) func(b []byte) (string, api.Errno) {
		return func(b []byte) (string, api.Errno) {
			number, l, e := f(b)
			return fmt.Sprintf("%d: %+v", number, l), e
		}
	}
	return opener{name, groups, text(open), text(defined)}
}

func openers() []opener {
	return []opener{
		two("Open", Open, definedOpen, 1, 2, 3, 4, 5, 6, 7, 8, 9, 10, 11, 12, 13, 14, 15, 16, 17, 18),
		one("Groups", Groups, definedGroups, 17),
		one("OpenZone", OpenZone, definedOpenZone, 1),
		two("OpenBiometric", OpenBiometric, definedOpenBiometric, 2, 3, 4),
		two("OpenDetails", OpenDetails, definedOpenDetails, 11, 12),
		one("OpenInfos", OpenInfos, definedOpenInfos, 14),
		one("OpenActive", OpenActive, definedOpenActive, 15),
	}
}

// openerOf returns the opener of the group's contents.
func openerOf(number int) opener {
	for _, o := range openers()[1:] {
		if slices.Contains(o.groups, number) {
			return o
		}
	}
	return openers()[0]
}

// agree compares what an opener returns with what the chapter says, and returns the error.
func agree(t *testing.T, o opener, name string, b []byte) api.Errno {
	t.Helper()
	got, e := o.open(b)
	want, wanted := o.defined(b)
	if e != wanted || got != want {
		t.Errorf("%s, %s of %x: %s and %d, not %s and %d", name, o.name, b, got, e, want, wanted)
	}
	if zero, _ := o.defined(nil); e != api.OK && got != zero {
		t.Errorf("%s, %s of %x: %s in spite of the error %d", name, o.name, b, got, e)
	}
	return e
}

// expect says what the opener of the group that b has by its first byte returns, besides what the chapter says.
func expect(t *testing.T, name string, b []byte, want api.Errno) {
	t.Helper()
	if e := agree(t, openerOf(definedGroup(int(b[0]))), name, b); e != want {
		t.Errorf("%s, %x: %d, not %d", name, b, e, want)
	}
}

// written compares a file that was written with what it is to be: the bytes as text, or an error and no bytes.
func written(t *testing.T, name string, b []byte, e api.Errno, want string, wanted api.Errno) {
	t.Helper()
	if e != wanted || !slices.Equal(b, samples.Unhex(want)) {
		t.Errorf("%s: %x and %d, not %s and %d", name, b, e, want, wanted)
	}
}

// refused tests that no file was written.
func refused(t *testing.T, name string, b []byte, e, want api.Errno) {
	t.Helper()
	written(t, name, b, e, "", want)
}
