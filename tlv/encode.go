package tlv

import (
	"math/bits"

	"traveldoc/api"
)

// Encode returns the encoding of objects.
func Encode(l []api.Node) ([]byte, api.Errno) {
	count, e := check(l, 1)
	if e != api.OK {
		return nil, e
	}
	if count > api.MaxNodes {
		return nil, api.ErrSize
	}
	size := listSize(l)
	if size > api.MaxBytes {
		return nil, api.ErrSize
	}
	return appendList(make([]byte, 0, size), l), api.OK
}

// check returns the number of objects at this depth and below, or the first error of theirs. It cannot stop at too many objects, because an error of a later one comes first.
func check(l []api.Node, depth int) (int, api.Errno) {
	count := len(l)
	for i := range l {
		if e := checkObject(&l[i], depth); e != api.OK {
			return 0, e
		}
		below, e := check(l[i].Kids, depth+1)
		if e != api.OK {
			return 0, e
		}
		count += below
	}
	return count, api.OK
}

// checkObject returns the first error of an object itself, without its Kids.
func checkObject(n *api.Node, depth int) api.Errno {
	switch {
	case !Valid(n.Tag):
		return api.ErrTag
	case Constructed(n.Tag) && len(n.Value) > 0, !Constructed(n.Tag) && len(n.Kids) > 0:
		return api.ErrForm
	case depth > api.MaxDepth:
		return api.ErrDepth
	}
	return api.OK
}

// listSize returns the number of bytes of the encodings of objects.
func listSize(l []api.Node) int {
	size := 0
	for _, n := range l {
		content := contentSize(n)
		size += tagSize(n.Tag) + 1 + lengthBytes(content) + content
	}
	return size
}

// contentSize counts Value and Kids, of which a checked object has at most one.
func contentSize(n api.Node) int {
	return len(n.Value) + listSize(n.Kids)
}

// lengthBytes returns how many bytes follow the first one of a length in shortest form.
func lengthBytes(length int) int {
	if length <= maxShort {
		return 0
	}
	return (bits.Len(uint(length)) + 7) / 8
}

func appendList(out []byte, l []api.Node) []byte {
	for _, n := range l {
		out = appendTag(out, n.Tag)
		out = appendLength(out, contentSize(n))
		out = append(out, n.Value...)
		out = appendList(out, n.Kids)
	}
	return out
}

func appendTag(out []byte, tag int) []byte {
	if tagSize(tag) == 2 {
		out = append(out, byte(tag>>8))
	}
	return append(out, byte(tag))
}

func appendLength(out []byte, length int) []byte {
	size := lengthBytes(length)
	if size == 0 {
		return append(out, byte(length))
	}
	out = append(out, byte(indefinite+size))
	for i := range size {
		out = append(out, byte(length>>(8*(size-1-i))))
	}
	return out
}
