package datagroups

import (
	"slices"

	"traveldoc/api"
	"traveldoc/biometrics"
)

// kinds are those of the templates of the groups from groupFace on.
var kinds = [...]int{api.TemplateFace, api.TemplateFinger, api.TemplateIris}

// hasOther reports whether templates have another kind than that of a group.
func hasOther(number int, l []api.Template) bool {
	kind := kinds[number-groupFace]
	return slices.ContainsFunc(l, func(t api.Template) bool { return t.Kind != kind })
}

// Biometric returns one of the groups 2 to 4.
func Biometric(number int, l []api.Template) ([]byte, api.Errno) {
	if number < groupFace || number > groupIris {
		return nil, api.ErrRange
	}
	objects, e := biometrics.Encode(l)
	if e != api.OK {
		return nil, e
	}
	if hasOther(number, l) {
		return nil, api.ErrInvalid
	}
	// Templates may have more bytes than a file: then there is no such group.
	return Wrap(number, objects)
}

// OpenBiometric reads one of the groups 2 to 4.
func OpenBiometric(b []byte) (number int, l []api.Template, e api.Errno) {
	number, objects, e := openBetween(b, groupFace, groupIris)
	if e != api.OK {
		return 0, nil, e
	}
	l, e = biometrics.Decode(objects)
	if e != api.OK {
		return 0, nil, e
	}
	if hasOther(number, l) {
		return 0, nil, api.ErrInvalid
	}
	return number, l, api.OK
}
