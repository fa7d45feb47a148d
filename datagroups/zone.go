package datagroups

import (
	"iter"
	"strings"

	"traveldoc/api"
	"traveldoc/zone"
)

const tagZone = 0x5f1f

// Zone returns group 1.
func Zone(z api.Zone) ([]byte, api.Errno) {
	rows, e := zone.Build(z)
	if e != api.OK {
		return nil, e
	}
	return Wrap(groupZone, []api.Node{{Tag: tagZone, Value: []byte(strings.Join(rows, ""))}})
}

// OpenZone reads group 1.
func OpenZone(b []byte) (api.Zone, api.Errno) {
	objects, e := openAs(b, groupZone)
	if e != api.OK {
		return api.Zone{}, e
	}
	value, ok := onlyValue(objects, tagZone)
	if !ok {
		return api.Zone{}, api.ErrForm
	}
	width, ok := widthOf(len(value))
	if !ok {
		return api.Zone{}, api.ErrSize
	}
	var rows []string
	for row := range lines(string(value), width) {
		rows = append(rows, row)
	}
	return zone.Parse(rows)
}

// widthOf returns the length of the lines of a zone that has so many bytes in all, if there is such a zone.
func widthOf(size int) (int, bool) {
	switch size {
	case 3 * api.ZoneCard:
		return api.ZoneCard, true
	case 2 * api.ZoneSmall:
		return api.ZoneSmall, true
	case 2 * api.ZoneBook:
		return api.ZoneBook, true
	}
	return 0, false
}

// lines yields the lines of a text that consists of whole ones.
func lines(text string, width int) iter.Seq[string] {
	return func(yield func(string) bool) {
		for at := 0; at < len(text); at += width {
			if !yield(text[at : at+width]) {
				return
			}
		}
	}
}
