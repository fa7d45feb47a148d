package securityobject

import (
	"slices"

	"traveldoc/api"
	"traveldoc/octets"
)

// The tags of the objects, of a file and of its message.
const (
	tagList   = 0x30
	tagNumber = 0x02
	tagBytes  = 0x04
)

// numberSize is the number of bytes of a version or a group.
const numberSize = 1

// parts are the Values of which a file consists.
type parts struct{ message, certificate, signature []byte }

// fileObject returns the only object of a file.
func fileObject(p parts) api.Node {
	return listObject(bytesObject(p.message), bytesObject(p.certificate), bytesObject(p.signature))
}

// messageObject returns the object of the message of a security object, whose numbers are in range.
func messageObject(s api.Security) api.Node {
	var hashes []api.Node
	for _, h := range s.Hashes {
		hashes = append(hashes, listObject(numberObject(h.Group), bytesObject(h.Hash)))
	}
	return listObject(numberObject(s.Version), listObject(hashes...))
}

func listObject(kids ...api.Node) api.Node { return api.Node{Tag: tagList, Kids: kids} }

// bytesObject returns an object that shares memory with b: it is encoded at once.
func bytesObject(b []byte) api.Node { return api.Node{Tag: tagBytes, Value: b} }

func numberObject(n int) api.Node {
	// There is no error, because versions and groups need no more bytes.
	value, _ := octets.Octets(n, numberSize)
	return api.Node{Tag: tagNumber, Value: value}
}

// openFile returns the parts of the objects of a file, if they have the form of a security object.
func openFile(l []api.Node) (parts, bool) {
	if len(l) != 1 {
		return parts{}, false
	}
	isOther := func(o api.Node) bool { return o.Tag != tagBytes }
	kids, ok := openList(l[0])
	if !ok || len(kids) != 3 || slices.ContainsFunc(kids, isOther) {
		return parts{}, false
	}
	return parts{kids[0].Value, kids[1].Value, kids[2].Value}, true
}

// openMessage returns a security object with what the objects of a message say, valid or not, if they have the form of a message.
func openMessage(l []api.Node) (api.Security, bool) {
	if len(l) != 1 {
		return api.Security{}, false
	}
	kids, ok := openList(l[0])
	if !ok || len(kids) != 2 {
		return api.Security{}, false
	}
	version, hasVersion := openNumber(kids[0])
	objects, hasHashes := openList(kids[1])
	if !hasVersion || !hasHashes {
		return api.Security{}, false
	}
	s := api.Security{Version: version}
	for _, o := range objects {
		h, ok := openHash(o)
		if !ok {
			return api.Security{}, false
		}
		s.Hashes = append(s.Hashes, h)
	}
	return s, true
}

// openHash reads a hash, whose length is for Valid to tell of.
func openHash(o api.Node) (api.GroupHash, bool) {
	kids, ok := openList(o)
	if !ok || len(kids) != 2 || kids[1].Tag != tagBytes {
		return api.GroupHash{}, false
	}
	group, ok := openNumber(kids[0])
	if !ok {
		return api.GroupHash{}, false
	}
	return api.GroupHash{Group: group, Hash: kids[1].Value}, true
}

// openList returns the Kids of an object that has the tag of a list.
func openList(o api.Node) ([]api.Node, bool) { return o.Kids, o.Tag == tagList }

func openNumber(o api.Node) (int, bool) {
	if o.Tag != tagNumber || len(o.Value) != numberSize {
		return 0, false
	}
	// So few bytes always have a number.
	n, _ := octets.Number(o.Value)
	return n, true
}
