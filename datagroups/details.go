package datagroups

import (
	"slices"

	"traveldoc/api"
	"traveldoc/octets"
	"traveldoc/tlv"
)

const (
	// maxText is the greatest number of bytes of a text.
	maxText = 99
	// tagSize is the number of bytes of a tag in the list of tags.
	tagSize = 2
)

// place says to which group a tag of details belongs.
type place struct{ tag, number int }

// places are those of all tags of details.
var places = [...]place{
	{0x5f0e, groupPerson},   // full name
	{0x5f10, groupPerson},   // personal number
	{0x5f11, groupPerson},   // place of birth
	{0x5f42, groupPerson},   // address
	{0x5f12, groupPerson},   // telephone
	{0x5f13, groupPerson},   // profession
	{0x5f14, groupPerson},   // title
	{0x5f15, groupPerson},   // summary
	{0x5f19, groupDocument}, // authority
	{0x5f26, groupDocument}, // date of issue
	{0x5f1b, groupDocument}, // observations
	{0x5f55, groupDocument}, // time of personalisation
}

// belongs reports whether a tag of details belongs to a group.
func belongs(tag, number int) bool {
	for _, p := range places {
		if p.tag == tag {
			return p.number == number
		}
	}
	return false
}

// checkDetails returns the first error of details that a group is to have.
func checkDetails(number int, l []api.Detail) api.Errno {
	if len(l) > api.MaxDetails {
		return api.ErrSize
	}
	for i, d := range l {
		hasSame := func(other api.Detail) bool { return other.Tag == d.Tag }
		switch {
		case !belongs(d.Tag, number):
			return api.ErrTag
		case slices.ContainsFunc(l[:i], hasSame):
			return api.ErrDuplicate
		case len(d.Text) == 0, len(d.Text) > maxText:
			return api.ErrSize
		}
	}
	return api.OK
}

// Details returns group 11 or 12.
func Details(number int, l []api.Detail) ([]byte, api.Errno) {
	if number != groupPerson && number != groupDocument {
		return nil, api.ErrRange
	}
	if e := checkDetails(number, l); e != api.OK {
		return nil, e
	}
	objects := []api.Node{{Tag: tagList, Value: listOf(l)}}
	for _, d := range l {
		objects = append(objects, api.Node{Tag: d.Tag, Value: []byte(d.Text)})
	}
	return Wrap(number, objects)
}

// OpenDetails reads group 11 or 12.
func OpenDetails(b []byte) (number int, l []api.Detail, e api.Errno) {
	number, objects, e := openBetween(b, groupPerson, groupDocument)
	if e != api.OK {
		return 0, nil, e
	}
	l, ok := openDetails(objects)
	if !ok {
		return 0, nil, api.ErrForm
	}
	if e := checkDetails(number, l); e != api.OK {
		return 0, nil, e
	}
	return number, l, api.OK
}

// listOf returns the tags of details as bytes.
func listOf(l []api.Detail) []byte {
	var list []byte
	for _, d := range l {
		// There is no error, because no tag has more than two bytes.
		tag, _ := octets.Octets(d.Tag, tagSize)
		list = append(list, tag...)
	}
	return list
}

// openDetails returns the details of objects that were read, whatever their tags and texts are, if the objects have the form of details.
func openDetails(objects []api.Node) ([]api.Detail, bool) {
	if len(objects) == 0 || slices.ContainsFunc(objects, isConstructed) {
		return nil, false
	}
	var l []api.Detail
	for _, o := range objects[1:] {
		l = append(l, api.Detail{Tag: o.Tag, Text: string(o.Value)})
	}
	return l, hasValue(objects[0], tagList, listOf(l))
}

func isConstructed(o api.Node) bool { return tlv.Constructed(o.Tag) }
