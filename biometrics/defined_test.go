package biometrics

import (
	"bytes"
	"math/rand"
	"regexp"
	"slices"
	"strconv"
	"strings"

	"traveldoc/api"
	"traveldoc/samples"
)

// The chapter's definitions, written out once more for the tests of this package: a template is examined defect by defect, and objects are written as text, whose form is that of regular expressions.

// definedParts has the parts of each kind.
var definedParts = map[int][]int{
	1: {0},
	2: {1, 2, 3, 4, 5, 6, 7, 8, 9, 10},
	3: {1, 2},
}

func isDay(n int) bool { return n >= 0 && n <= 73048 }

// definedErrors returns all errors that apply to a template, in their order.
func definedErrors(t api.Template) []api.Errno {
	var errors []api.Errno
	if !slices.Contains(definedParts[t.Kind], t.Part) {
		errors = append(errors, api.ErrInvalid)
	}
	if !isDay(t.From) || !isDay(t.To) || t.To < t.From {
		errors = append(errors, api.ErrDate)
	}
	if t.Format < 0 || t.Format >= 1<<16 || t.Quality < 0 || t.Quality >= 101 {
		errors = append(errors, api.ErrRange)
	}
	if n := len(t.Data); n < 1 || n >= 1025 {
		errors = append(errors, api.ErrSize)
	}
	return errors
}

// definedError is the error of Encode.
func definedError(l []api.Template) api.Errno {
	if n := len(l); n < 1 || n > 8 {
		return api.ErrSize
	}
	for _, t := range l {
		if errors := definedErrors(t); len(errors) > 0 {
			return errors[0]
		}
	}
	return api.OK
}

const definedTemplate = `7f60\[\]\(` +
	`a1\[\]\(81\[(..)\]\(\)82\[(..)\]\(\)83\[(.{8})\]\(\)84\[(.{8})\]\(\)85\[(..)\]\(\)88\[(....)\]\(\)\)` +
	`5f2e\[([0-9a-f]*)\]\(\)\)`

var (
	templateForm = regexp.MustCompile(definedTemplate)
	listForm     = regexp.MustCompile(`^7f61\[\]\(2\[(..)\]\(\)((?:` + definedTemplate + `)*)\)$`)
)

func hexNumber(text string) int {
	n, err := strconv.ParseInt(text, 16, 64)
	if err != nil {
		panic(err)
	}
	return int(n)
}

// definedDecode is P13.3.
func definedDecode(l []api.Node) ([]api.Template, api.Errno) {
	parts := listForm.FindStringSubmatch(samples.TextOfNodes(l))
	if parts == nil {
		return nil, api.ErrForm
	}
	var out []api.Template
	for _, m := range templateForm.FindAllStringSubmatch(parts[2], -1) {
		out = append(out, api.Template{
			Kind: hexNumber(m[1]), Part: hexNumber(m[2]), From: hexNumber(m[3]), To: hexNumber(m[4]),
			Quality: hexNumber(m[5]), Format: hexNumber(m[6]), Data: samples.Unhex(m[7]),
		})
	}
	if hexNumber(parts[1]) != len(out) {
		return nil, api.ErrForm
	}
	if e := definedError(out); e != api.OK {
		return nil, e
	}
	return out, api.OK
}

// definedEncode is P13.2. The numbers of a header are written as text in the tag's order.
func definedEncode(l []api.Template) ([]api.Node, api.Errno) {
	if e := definedError(l); e != api.OK {
		return nil, e
	}
	digits := func(n, size int) []byte {
		text := strconv.FormatInt(int64(n), 16)
		return samples.Unhex(strings.Repeat("0", 2*size-len(text)) + text)
	}
	list := api.Node{Tag: 0x7f61, Kids: []api.Node{{Tag: 2, Value: digits(len(l), 1)}}}
	for _, t := range l {
		list.Kids = append(list.Kids, api.Node{Tag: 0x7f60, Kids: []api.Node{
			{Tag: 0xa1, Kids: []api.Node{
				{Tag: 0x81, Value: digits(t.Kind, 1)},
				{Tag: 0x82, Value: digits(t.Part, 1)},
				{Tag: 0x83, Value: digits(t.From, 4)},
				{Tag: 0x84, Value: digits(t.To, 4)},
				{Tag: 0x85, Value: digits(t.Quality, 1)},
				{Tag: 0x88, Value: digits(t.Format, 2)},
			}},
			{Tag: 0x5f2e, Value: t.Data},
		}})
	}
	return []api.Node{list}, api.OK
}

// Help for the tests of this package.

func face() api.Template {
	return api.Template{Kind: api.TemplateFace, From: 0, To: 100, Format: 1, Quality: 50, Data: []byte{7}}
}

func finger() api.Template {
	return api.Template{Kind: api.TemplateFinger, Part: 10, From: 36524, To: 73048, Format: 65535, Quality: 100, Data: []byte{8, 9, 0}}
}

func iris() api.Template {
	return api.Template{Kind: api.TemplateIris, Part: 2, From: 258, To: 66051, Format: 258, Quality: 0, Data: []byte{0xff, 0}}
}

// sameTemplates compares templates, where nil and empty Data are equal.
func sameTemplates(a, b []api.Template) bool {
	return slices.EqualFunc(a, b, func(x, y api.Template) bool {
		return x.Kind == y.Kind && x.Part == y.Part && x.From == y.From && x.To == y.To &&
			x.Format == y.Format && x.Quality == y.Quality && bytes.Equal(x.Data, y.Data)
	})
}

// copyTemplates returns a copy of templates that shares no memory with them.
func copyTemplates(l []api.Template) []api.Template {
	out := slices.Clone(l)
	for i := range out {
		out[i].Data = bytes.Clone(out[i].Data)
	}
	return out
}

// encoded returns what Encode is to return for templates, and panics if there is an error.
func encoded(l ...api.Template) []api.Node {
	nodes, e := definedEncode(l)
	if e != api.OK {
		panic(int(e))
	}
	return nodes
}

func pick(r *rand.Rand, from ...int) int { return from[r.Intn(len(from))] }

// randomTemplate returns a template that is valid.
func randomTemplate(r *rand.Rand) api.Template {
	t := api.Template{Kind: 1 + r.Intn(3)}
	t.Part = pick(r, definedParts[t.Kind]...)
	t.From = pick(r, 0, 1, 255, 256, 65535, 65536, 73047, r.Intn(73048))
	t.To = pick(r, t.From, t.From+1, 73048, t.From+r.Intn(73049-t.From))
	t.Format = pick(r, 0, 1, 255, 256, 65535, r.Intn(65536))
	t.Quality = pick(r, 0, 1, 99, 100, r.Intn(101))
	t.Data = make([]byte, pick(r, 1, 2, 1+r.Intn(20), 127, 128, 1023, 1024))
	r.Read(t.Data)
	return t
}

func randomTemplates(r *rand.Rand, n int) []api.Template {
	l := make([]api.Template, n)
	for i := range l {
		l[i] = randomTemplate(r)
	}
	return l
}
