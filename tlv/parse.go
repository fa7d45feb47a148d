package tlv

import "traveldoc/api"

const (
	// maxShort is the greatest length in short form.
	maxShort = 0x7f
	// indefinite is the first byte of a length in indefinite form. That of a long form is greater by the number of bytes that follow it.
	indefinite = 0x80
	// maxLong is the greatest first byte of a length.
	maxLong = 0x84
)

// header is the tag and the length of an object, as they were read.
type header struct {
	tag    int
	form   byte // the first byte of the length
	length int  // of the content; 0 in indefinite form
	size   int  // bytes of tag and length
}

// Parse returns the objects of an encoding.
func Parse(b []byte, strict bool) ([]api.Node, api.Errno) {
	if len(b) > api.MaxBytes {
		return nil, api.ErrSize
	}
	r := reader{strict: strict}
	return r.list(b, 1)
}

// Size returns the number of bytes of the first object.
func Size(b []byte) (int, api.Errno) {
	h, e := readHeader(b)
	if e != api.OK {
		return 0, e
	}
	if h.form == indefinite {
		return 0, api.ErrLength
	}
	return h.size + h.length, api.OK
}

// readHeader reads the tag and the length at the beginning of b.
func readHeader(b []byte) (header, api.Errno) {
	tag, e := readTag(b)
	if e != api.OK {
		return header{}, e
	}
	h := header{tag: tag, size: tagSize(tag) + 1}
	if len(b) < h.size {
		return header{}, api.ErrTruncated
	}
	h.form = b[h.size-1]
	switch {
	case h.form > maxLong:
		return header{}, api.ErrLength
	case h.form <= maxShort:
		h.length = int(h.form)
		return h, api.OK
	}
	more := int(h.form - indefinite)
	if len(b)-h.size < more {
		return header{}, api.ErrTruncated
	}
	for i := range more {
		h.length = h.length<<8 | int(b[h.size+i])
	}
	h.size += more
	return h, api.OK
}

// readTag reads the tag at the beginning of b.
func readTag(b []byte) (int, api.Errno) {
	if len(b) == 0 {
		return 0, api.ErrTruncated
	}
	tag := int(b[0])
	if tag&moreBits == moreBits {
		if len(b) == 1 {
			return 0, api.ErrTruncated
		}
		tag = tag<<8 | int(b[1])
	}
	if !Valid(tag) {
		return 0, api.ErrTag
	}
	return tag, api.OK
}

// shortest reports whether the length has the shortest form, which the indefinite form never is.
func (h header) shortest() bool {
	more := lengthBytes(h.length)
	if more == 0 {
		return h.form <= maxShort
	}
	return int(h.form) == indefinite+more
}

// reader reads the objects of one encoding, from the left to the right, and counts them.
type reader struct {
	strict bool
	count  int
}

// list reads objects up to the end of b.
func (r *reader) list(b []byte, depth int) ([]api.Node, api.Errno) {
	var l []api.Node
	for len(b) > 0 {
		n, rest, e := r.object(b, depth)
		if e != api.OK {
			return nil, e
		}
		l, b = append(l, n), rest
	}
	return l, api.OK
}

// listToMark reads objects up to the two bytes 0 that end an object of the indefinite form, and returns what is behind them.
func (r *reader) listToMark(b []byte, depth int) ([]api.Node, []byte, api.Errno) {
	var l []api.Node
	for {
		// A single byte is half a mark, or a tag without a length.
		if len(b) < 2 {
			return nil, nil, api.ErrTruncated
		}
		if b[0] == 0 && b[1] == 0 {
			return l, b[2:], api.OK
		}
		n, rest, e := r.object(b, depth)
		if e != api.OK {
			return nil, nil, e
		}
		l, b = append(l, n), rest
	}
}

// object reads the object at the beginning of b, and returns what is behind it.
func (r *reader) object(b []byte, depth int) (api.Node, []byte, api.Errno) {
	h, e := readHeader(b)
	if e == api.OK {
		e = r.admit(h, depth)
	}
	if e != api.OK {
		return api.Node{}, nil, e
	}
	b = b[h.size:]
	if h.form == indefinite {
		kids, rest, e := r.listToMark(b, depth+1)
		return api.Node{Tag: h.tag, Kids: kids}, rest, e
	}
	if h.length > len(b) {
		return api.Node{}, nil, api.ErrTruncated
	}
	content, rest := b[:h.length], b[h.length:]
	if !Constructed(h.tag) {
		return api.Node{Tag: h.tag, Value: cloneBytes(content)}, rest, api.OK
	}
	kids, e := r.list(content, depth+1)
	return api.Node{Tag: h.tag, Kids: kids}, rest, e
}

// admit counts an object, and checks it as far as its header tells.
func (r *reader) admit(h header, depth int) api.Errno {
	switch {
	case h.form == indefinite && !Constructed(h.tag), r.strict && !h.shortest():
		return api.ErrLength
	case depth > api.MaxDepth:
		return api.ErrDepth
	}
	r.count++
	if r.count > api.MaxNodes {
		return api.ErrSize
	}
	return api.OK
}
