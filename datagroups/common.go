package datagroups

import "traveldoc/api"

// The tags of the objects of the list of groups, and the texts of the first two of them.
const (
	tagVersion    = 0x5f01
	tagCharacters = 0x5f36
	// tagList is that of a list of tags, in the groups with details, too.
	tagList = 0x5c

	textVersion    = "0108"
	textCharacters = "040000"
)

// Common returns the file with the list of groups.
func Common(groups []int) ([]byte, api.Errno) {
	var list []byte
	for i, number := range groups {
		if !isData(number) {
			return nil, api.ErrRange
		}
		if i > 0 && number <= groups[i-1] {
			return nil, api.ErrOrder
		}
		// There is no error, because the number is that of a group.
		tag, _ := Tag(number)
		list = append(list, byte(tag))
	}
	return Wrap(groupCommon, commonObjects(list))
}

// Groups reads the file with the list of groups.
func Groups(b []byte) ([]int, api.Errno) {
	objects, e := openAs(b, groupCommon)
	if e != api.OK {
		return nil, e
	}
	list, ok := openCommon(objects)
	if !ok {
		return nil, api.ErrForm
	}
	groups := make([]int, len(list))
	for i, tag := range list {
		number, e := Group(int(tag))
		if e != api.OK || !isData(number) {
			return nil, api.ErrTag
		}
		if i > 0 && number <= groups[i-1] {
			return nil, api.ErrOrder
		}
		groups[i] = number
	}
	return groups, api.OK
}

// commonObjects returns the objects of group 17 around a list of tags.
func commonObjects(list []byte) []api.Node {
	return []api.Node{
		{Tag: tagVersion, Value: []byte(textVersion)},
		{Tag: tagCharacters, Value: []byte(textCharacters)},
		{Tag: tagList, Value: list},
	}
}

// openCommon returns the list of tags of objects that were read, if they have the form of group 17.
func openCommon(objects []api.Node) ([]byte, bool) {
	// Around any list of tags the objects are the same.
	want := commonObjects(nil)
	if len(objects) != len(want) {
		return nil, false
	}
	last := len(want) - 1
	for i, o := range want[:last] {
		if !hasValue(objects[i], o.Tag, o.Value) {
			return nil, false
		}
	}
	return onlyValue(objects[last:], tagList)
}
