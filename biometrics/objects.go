package biometrics

import (
	"traveldoc/api"
	"traveldoc/octets"
	"traveldoc/tlv"
)

// The tags of the objects around the numbers of a header.
const (
	tagList     = 0x7f61
	tagCount    = 0x02
	tagTemplate = 0x7f60
	tagHeader   = 0xa1
	tagData     = 0x5f2e
)

// countSize is the number of bytes of the number of templates.
const countSize = 1

// number is one of those of a header: the tag of its object, how many bytes it has there, and where a template has it.
type number struct {
	tag, size int
	of        func(t *api.Template) *int
}

// header returns the numbers of a header, in their order.
func header() [6]number {
	return [...]number{
		{0x81, 1, func(t *api.Template) *int { return &t.Kind }},
		{0x82, 1, func(t *api.Template) *int { return &t.Part }},
		{0x83, 4, func(t *api.Template) *int { return &t.From }},
		{0x84, 4, func(t *api.Template) *int { return &t.To }},
		{0x85, 1, func(t *api.Template) *int { return &t.Quality }},
		{0x88, 2, func(t *api.Template) *int { return &t.Format }},
	}
}

// listObject returns the object of templates, which are valid.
func listObject(l []api.Template) api.Node {
	kids := make([]api.Node, 0, 1+len(l))
	kids = append(kids, numberObject(tagCount, len(l), countSize))
	for _, t := range l {
		kids = append(kids, templateObject(t))
	}
	return api.Node{Tag: tagList, Kids: kids}
}

func templateObject(t api.Template) api.Node {
	var numbers []api.Node
	for _, n := range header() {
		numbers = append(numbers, numberObject(n.tag, *n.of(&t), n.size))
	}
	return api.Node{Tag: tagTemplate, Kids: []api.Node{
		{Tag: tagHeader, Kids: numbers},
		{Tag: tagData, Value: copied(t.Data)},
	}}
}

func numberObject(tag, n, size int) api.Node {
	// There is no error, because each number of a valid template has room in its bytes.
	value, _ := octets.Octets(n, size)
	return api.Node{Tag: tag, Value: value}
}

// openList returns the templates of objects, valid or not, if the objects have the form of templates.
func openList(l []api.Node) ([]api.Template, bool) {
	if len(l) != 1 || !hasForm(l[0], tagList) || len(l[0].Kids) == 0 {
		return nil, false
	}
	first, objects := l[0].Kids[0], l[0].Kids[1:]
	if count, ok := openNumber(first, tagCount, countSize); !ok || count != len(objects) {
		return nil, false
	}
	templates := make([]api.Template, len(objects))
	for i := range objects {
		t, ok := openTemplate(objects[i])
		if !ok {
			return nil, false
		}
		templates[i] = t
	}
	return templates, true
}

func openTemplate(o api.Node) (api.Template, bool) {
	if !hasForm(o, tagTemplate) || len(o.Kids) != 2 {
		return api.Template{}, false
	}
	t, ok := openHeader(o.Kids[0])
	data := o.Kids[1]
	if !ok || !hasForm(data, tagData) {
		return api.Template{}, false
	}
	t.Data = copied(data.Value)
	return t, true
}

// openHeader returns a template with the numbers of a header.
func openHeader(o api.Node) (api.Template, bool) {
	numbers := header()
	if !hasForm(o, tagHeader) || len(o.Kids) != len(numbers) {
		return api.Template{}, false
	}
	var t api.Template
	for i, n := range numbers {
		x, ok := openNumber(o.Kids[i], n.tag, n.size)
		if !ok {
			return api.Template{}, false
		}
		*n.of(&t) = x
	}
	return t, true
}

func openNumber(o api.Node, tag, size int) (int, bool) {
	if !hasForm(o, tag) || len(o.Value) != size {
		return 0, false
	}
	n, e := octets.Number(o.Value)
	return n, e == api.OK
}

// hasForm reports whether an object has this tag, and has no Kids or no Value, as the tag says.
func hasForm(o api.Node, tag int) bool {
	if o.Tag != tag {
		return false
	}
	if tlv.Constructed(tag) {
		return len(o.Value) == 0
	}
	return len(o.Kids) == 0
}

func copied(b []byte) []byte {
	out := make([]byte, len(b))
	copy(out, b)
	return out
}
