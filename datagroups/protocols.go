package datagroups

import (
	"traveldoc/api"
	"traveldoc/group"
	"traveldoc/securityinfo"
	"traveldoc/tlv"
)

const tagKey = 0x04

// Infos returns group 14.
func Infos(l []api.Info) ([]byte, api.Errno) {
	b, e := securityinfo.Encode(l)
	if e != api.OK {
		return nil, e
	}
	// There is no error, because infos are written strictly.
	objects, _ := tlv.Parse(b, true)
	return Wrap(groupInfos, objects)
}

// OpenInfos reads group 14.
func OpenInfos(b []byte) ([]api.Info, api.Errno) {
	objects, e := openAs(b, groupInfos)
	if e != api.OK {
		return nil, e
	}
	// Infos are read strictly, though a file may have lengths in other forms. There is no error, because the shortest ones need no more bytes.
	strict, _ := tlv.Encode(objects)
	return securityinfo.Decode(strict)
}

// Active returns group 15.
func Active(key int) ([]byte, api.Errno) {
	value, e := group.Encode(key)
	if e != api.OK {
		return nil, e
	}
	return Wrap(groupActive, []api.Node{{Tag: tagKey, Value: value}})
}

// OpenActive reads group 15.
func OpenActive(b []byte) (int, api.Errno) {
	objects, e := openAs(b, groupActive)
	if e != api.OK {
		return 0, e
	}
	value, ok := onlyValue(objects, tagKey)
	if !ok {
		return 0, api.ErrForm
	}
	return group.Decode(value)
}
