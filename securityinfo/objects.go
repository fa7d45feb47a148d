package securityinfo

import (
	"traveldoc/api"
	"traveldoc/octets"
)

// The tags of the objects.
const (
	tagList       = 0x31
	tagInfo       = 0x30
	tagIdentifier = 0x06
	tagNumber     = 0x02
	tagKey        = 0x04
)

const (
	identifierSize = 9
	byteSize       = 1
	// keySize is the number of bytes that group.Encode returns. Keys are read as numbers, because group.Decode would tell of one that is no element ahead of the errors of the infos before it.
	keySize = 4
)

// identifiers are those of the protocols from api.ProtoGeneric on.
var identifiers = [...][identifierSize]byte{
	{0x04, 0x00, 0x7f, 0x00, 0x07, 0x02, 0x02, 0x04, 0x01},
	{0x04, 0x00, 0x7f, 0x00, 0x07, 0x02, 0x02, 0x04, 0x02},
	{0x04, 0x00, 0x7f, 0x00, 0x07, 0x02, 0x02, 0x03, 0x01},
	{0x04, 0x00, 0x7f, 0x00, 0x07, 0x02, 0x02, 0x02, 0x01},
	{0x04, 0x00, 0x7f, 0x00, 0x07, 0x02, 0x02, 0x05, 0x01},
}

// identifierOf returns the identifier of a protocol of a valid info.
func identifierOf(protocol int) []byte {
	identifier := identifiers[protocol-api.ProtoGeneric]
	return identifier[:]
}

// protocolOf returns the protocol that an identifier stands for.
func protocolOf(b []byte) (int, bool) {
	for i, identifier := range identifiers {
		if octets.Same(identifier[:], b) {
			return api.ProtoGeneric + i, true
		}
	}
	return 0, false
}

// number is one of those of an info: the tag of its object, how many bytes it has there, and where the info has it.
type number struct {
	tag, size int
	at        *int
}

// numbers returns the numbers that are written behind the identifier of an info, in their order.
func numbers(x *api.Info) []number {
	l := []number{{tagNumber, byteSize, &x.Version}}
	switch {
	case opensWithPassword(x.Protocol):
		l = append(l, number{tagNumber, byteSize, &x.Params})
	case x.Protocol == api.ProtoChip:
		l = append(l, number{tagKey, keySize, &x.Key}, number{tagNumber, byteSize, &x.KeyID})
	}
	return l
}

// listObject returns the object of infos, which are valid.
func listObject(l []api.Info) api.Node {
	list := api.Node{Tag: tagList}
	for _, x := range l {
		list.Kids = append(list.Kids, infoObject(x))
	}
	return list
}

func infoObject(x api.Info) api.Node {
	kids := []api.Node{{Tag: tagIdentifier, Value: identifierOf(x.Protocol)}}
	for _, n := range numbers(&x) {
		// There is no error, because each number of a valid info has room in its bytes.
		value, _ := octets.Octets(*n.at, n.size)
		kids = append(kids, api.Node{Tag: n.tag, Value: value})
	}
	return api.Node{Tag: tagInfo, Kids: kids}
}

// openList returns the infos of objects that were read, valid or not, if the objects have the form of infos.
func openList(objects []api.Node) ([]api.Info, bool) {
	if len(objects) != 1 || objects[0].Tag != tagList {
		return nil, false
	}
	var l []api.Info
	for _, o := range objects[0].Kids {
		x, ok := openInfo(o)
		if !ok {
			return nil, false
		}
		l = append(l, x)
	}
	return l, true
}

func openInfo(o api.Node) (api.Info, bool) {
	if o.Tag != tagInfo || len(o.Kids) == 0 {
		return api.Info{}, false
	}
	first, rest := o.Kids[0], o.Kids[1:]
	protocol, ok := protocolOf(first.Value)
	if !ok || first.Tag != tagIdentifier {
		return api.Info{}, false
	}
	x := api.Info{Protocol: protocol}
	if !openNumbers(rest, numbers(&x)) {
		return api.Info{}, false
	}
	return x, true
}

// openNumbers reads each number out of its object, if there is one for each, and none more.
func openNumbers(objects []api.Node, l []number) bool {
	if len(objects) != len(l) {
		return false
	}
	for i, n := range l {
		o := objects[i]
		if o.Tag != n.tag || len(o.Value) != n.size {
			return false
		}
		// So few bytes always have a number.
		*n.at, _ = octets.Number(o.Value)
	}
	return true
}
