package samples

import (
	"strconv"
	"strings"

	"traveldoc/api"
)

// Digits writes a number as hexadecimal text of so many bytes. It panics if the number needs more.
func Digits(n, size int) string {
	text := strconv.FormatInt(int64(n), 16)
	return strings.Repeat("0", 2*size-len(text)) + text
}

// Object writes an object as hexadecimal text: a tag, a length in shortest form, and a content, which is text already.
func Object(tag int, content ...string) string {
	all := strings.ReplaceAll(strings.Join(content, ""), " ", "")
	tagSize := 1
	if tag > 255 {
		tagSize = 2
	}
	head, size := Digits(tag, tagSize), len(all)/2
	switch {
	case size < 1<<7:
		return head + Digits(size, 1) + all
	case size < 1<<8:
		return head + "81" + Digits(size, 1) + all
	}
	return head + "82" + Digits(size, 2) + all
}

// Loose returns an encoding of objects with lengths in other forms, each of which pick chooses: a number below the one that it is given.
func Loose(pick func(below int) int, l []api.Node) []byte {
	var out []byte
	for _, n := range l {
		first := n.Tag
		if n.Tag > 255 {
			first = n.Tag >> 8
			out = append(out, byte(first))
		}
		out = append(out, byte(n.Tag))
		hasKids := first&32 != 0
		content := n.Value
		if hasKids {
			content = Loose(pick, n.Kids)
		}
		form := pick(6)
		switch {
		case form == 5 && hasKids:
			out = append(out, 0x80)
			out = append(out, content...)
			out = append(out, 0, 0)
			continue
		case form == 0 && len(content) < 128:
			out = append(out, byte(len(content)))
		case form == 1 && len(content) < 256:
			out = append(out, 0x81, byte(len(content)))
		case form == 3:
			out = append(out, 0x83, 0, byte(len(content)>>8), byte(len(content)))
		case form == 4:
			out = append(out, 0x84, 0, 0, byte(len(content)>>8), byte(len(content)))
		default:
			out = append(out, 0x82, byte(len(content)>>8), byte(len(content)))
		}
		out = append(out, content...)
	}
	return out
}
