package biometrics

import (
	"bytes"
	"math/rand"
	"slices"
	"testing"

	"traveldoc/api"
	"traveldoc/samples"
	"traveldoc/tlv"
)

// P13.2

func TestEncodeOfOneTemplate(t *testing.T) {
	got, e := Encode([]api.Template{face()})
	want := []api.Node{{Tag: 0x7f61, Kids: []api.Node{
		{Tag: 2, Value: []byte{1}},
		{Tag: 0x7f60, Kids: []api.Node{
			{Tag: 0xa1, Kids: []api.Node{
				{Tag: 0x81, Value: []byte{1}},
				{Tag: 0x82, Value: []byte{0}},
				{Tag: 0x83, Value: []byte{0, 0, 0, 0}},
				{Tag: 0x84, Value: []byte{0, 0, 0, 100}},
				{Tag: 0x85, Value: []byte{50}},
				{Tag: 0x88, Value: []byte{0, 1}},
			}},
			{Tag: 0x5f2e, Value: []byte{7}},
		}},
	}}}
	if e != api.OK || !samples.SameNodes(got, want) {
		t.Error(got, e)
	}
}

// The bytes are written down by hand, so that the tags are also those of constructed and of primitive objects.
func TestEncodeAsBytes(t *testing.T) {
	for _, x := range []struct {
		l    []api.Template
		want string
	}{
		{
			[]api.Template{face()},
			"7f61 25 02 01 01" +
				"7f60 1f a1 19 81 01 01 82 01 00 83 04 00000000 84 04 00000064 85 01 32 88 02 0001 5f2e 01 07",
		},
		{
			[]api.Template{finger(), iris(), finger()},
			"7f61 6e 02 01 03" +
				"7f60 21 a1 19 81 01 02 82 01 0a 83 04 00008eac 84 04 00011d58 85 01 64 88 02 ffff 5f2e 03 080900" +
				"7f60 20 a1 19 81 01 03 82 01 02 83 04 00000102 84 04 00010203 85 01 00 88 02 0102 5f2e 02 ff00" +
				"7f60 21 a1 19 81 01 02 82 01 0a 83 04 00008eac 84 04 00011d58 85 01 64 88 02 ffff 5f2e 03 080900",
		},
	} {
		l, e := Encode(x.l)
		if e != api.OK {
			t.Fatal(e)
		}
		b, e := tlv.Encode(l)
		if e != api.OK || !bytes.Equal(b, samples.Unhex(x.want)) {
			t.Errorf("%x, not %s: %d", b, x.want, e)
		}
	}
}

func TestEncodeOfNumbersOfTemplates(t *testing.T) {
	if l, e := Encode([]api.Template{}); e != api.ErrSize || len(l) != 0 {
		t.Error(l, e)
	}
	for n := range 20 {
		l := slices.Repeat([]api.Template{iris()}, n)
		got, e := Encode(l)
		if n == 0 || n > api.MaxTemplates {
			if e != api.ErrSize || len(got) != 0 {
				t.Errorf("%d templates: %d, %v", n, e, got)
			}
			continue
		}
		if e != api.OK || len(got) != 1 || len(got[0].Kids) != 1+n || !bytes.Equal(got[0].Kids[0].Value, []byte{byte(n)}) {
			t.Errorf("%d templates: %d, %v", n, e, got)
		}
	}
	// Two to the power of eight and one more is written with the byte of one template, if it is not refused.
	if l, e := Encode(slices.Repeat([]api.Template{iris()}, 257)); e != api.ErrSize || len(l) != 0 {
		t.Error(l, e)
	}
}

func TestEncodeOfGreatTemplates(t *testing.T) {
	x := face()
	x.Data = samples.Bytes(1024)
	// These objects have more bytes than an encoding may have, which is no error here.
	l := slices.Repeat([]api.Template{x}, api.MaxTemplates)
	got, e := Encode(l)
	if e != api.OK || !samples.SameNodes(got, encoded(l...)) {
		t.Error(e)
	}
	if _, e := tlv.Encode(got); e != api.ErrSize {
		t.Error(e)
	}
}

func TestEncodeOrderOfErrors(t *testing.T) {
	for _, first := range defects {
		x := finger()
		first.make(&x)
		if l, e := Encode([]api.Template{x}); e != first.want || len(l) != 0 {
			t.Errorf("%s: %d, %v", first.name, e, l)
		}
		// The number of templates comes ahead of their errors.
		if l, e := Encode(slices.Repeat([]api.Template{x}, api.MaxTemplates+1)); e != api.ErrSize || len(l) != 0 {
			t.Errorf("%s, too often: %d, %v", first.name, e, l)
		}
		for at := range api.MaxTemplates {
			l := slices.Repeat([]api.Template{face()}, api.MaxTemplates)
			l[at] = x
			if got, e := Encode(l); e != first.want || len(got) != 0 {
				t.Errorf("%s at %d: %d, %v", first.name, at, e, got)
			}
		}
		// Of two templates, the first one decides, whichever errors they have.
		for _, second := range defects {
			y := iris()
			second.make(&y)
			if l, e := Encode([]api.Template{face(), x, face(), y}); e != first.want || len(l) != 0 {
				t.Errorf("%s ahead of %s: %d, %v", first.name, second.name, e, l)
			}
		}
	}
}

func TestEncodeOfRandomTemplates(t *testing.T) {
	r := rand.New(rand.NewSource(3))
	good := 0
	for range 4000 {
		l := randomTemplates(r, pick(r, 0, 1, 2, 3, 7, 8, 9))
		for i := range l {
			if r.Intn(8) == 0 {
				spoil(r, &l[i])
			}
		}
		want, wanted := definedEncode(l)
		got, e := Encode(l)
		if e != wanted || !samples.SameNodes(got, want) {
			t.Fatalf("%+v: %d, %v", l, e, got)
		}
		if e != api.OK {
			continue
		}
		good++
		// Decode(Encode(l)) is l, also through the bytes that a file has.
		back, e := Decode(got)
		if e != api.OK || !sameTemplates(back, l) {
			t.Fatalf("%+v came back as %+v: %d", l, back, e)
		}
		b, e := tlv.Encode(got)
		if e != api.OK {
			continue
		}
		read, e := tlv.Parse(b, true)
		if e != api.OK {
			t.Fatal(e)
		}
		if back, e := Decode(read); e != api.OK || !sameTemplates(back, l) {
			t.Fatalf("%+v was read as %+v: %d", l, back, e)
		}
	}
	if good < 1000 {
		t.Error("hardly any templates were encoded:", good)
	}
}

// P13.3

func TestDecode(t *testing.T) {
	for _, l := range [][]api.Template{
		{face()}, {finger()}, {iris()}, {iris(), face(), finger()}, {face(), face()},
		slices.Repeat([]api.Template{finger()}, api.MaxTemplates),
	} {
		nodes := encoded(l...)
		got, e := Decode(nodes)
		if e != api.OK || !sameTemplates(got, l) {
			t.Errorf("%+v came back as %+v: %d", l, got, e)
		}
		// Encode(Decode(l)) is l.
		again, e := Encode(got)
		if e != api.OK || !samples.SameNodes(again, nodes) {
			t.Error(again, e)
		}
	}
}

// Slices that are empty instead of nil say the same (R3).
func TestDecodeOfEmptySlices(t *testing.T) {
	nodes := encoded(face())
	samples.SeeNodes(nodes, func(n *api.Node) {
		if n.Value == nil {
			n.Value = []byte{}
		}
		if n.Kids == nil {
			n.Kids = []api.Node{}
		}
	})
	if got, e := Decode(nodes); e != api.OK || !sameTemplates(got, []api.Template{face()}) {
		t.Error(got, e)
	}
}

// refuse tests that objects are not decoded.
func refuse(t *testing.T, name string, l []api.Node, want api.Errno) {
	t.Helper()
	if got, e := Decode(l); e != want || len(got) != 0 {
		t.Errorf("%s: %d, %+v: %s", name, e, got, samples.TextOfNodes(l))
	}
}

// forms are objects whose form is changed at each place: those of templates that are valid, and those of templates that are not, so that the form shows itself ahead of all that comes behind it.
func forms() map[string][]api.Node {
	twisted := encoded(finger(), face())
	samples.SeeNodes(twisted, func(n *api.Node) {
		if n.Tag >= 0x81 && n.Tag <= 0x88 {
			n.Value = bytes.Repeat([]byte{0xff}, len(n.Value))
		}
		if n.Tag == 0x5f2e {
			n.Value = nil
		}
	})
	return map[string][]api.Node{
		"valid":     encoded(face(), iris(), finger()),
		"alone":     encoded(iris()),
		"not valid": twisted,
	}
}

func TestFormsAreForms(t *testing.T) {
	for name, l := range forms() {
		want := api.OK
		if name == "not valid" {
			want = api.ErrInvalid
		}
		if _, e := Decode(l); e != want {
			t.Error(name, e)
		}
	}
}

func TestDecodeOfOtherTags(t *testing.T) {
	others := []int{
		0, -1, 1, 2, 4, 0x22, 0x30, 0x80, 0x81, 0x82, 0x83, 0x84, 0x85, 0x86, 0x87, 0x88, 0x89, 0xa0, 0xa1, 0xa2, 0xc1,
		0x2e, 0x5f, 0x60, 0x61, 0x7f, 0x5f2d, 0x5f2e, 0x5f2f, 0x7f2e, 0x7f5f, 0x7f60, 0x7f61, 0x7f62, 0x5f60, 0x5f61,
	}
	for name, l := range forms() {
		samples.EachNode(l, func(tag int, change func(func(n *api.Node)) []api.Node) {
			for _, other := range append(others, tag+1, tag-1, tag+1<<8, tag+1<<16, tag+1<<32, -tag, ^tag) {
				if other != tag {
					refuse(t, name, change(func(n *api.Node) { n.Tag = other }), api.ErrForm)
				}
			}
		})
	}
}

func isPrimitive(tag int) bool { return tag == 2 || tag >= 0x81 && tag <= 0x88 || tag == 0x5f2e }

func TestDecodeOfValuesAndKidsWhereNoneMayBe(t *testing.T) {
	for name, l := range forms() {
		samples.EachNode(l, func(tag int, change func(func(n *api.Node)) []api.Node) {
			if !isPrimitive(tag) {
				for _, value := range [][]byte{{0}, {1}, {1, 2}} {
					refuse(t, name, change(func(n *api.Node) { n.Value = value }), api.ErrForm)
				}
				refuse(t, name, change(func(n *api.Node) { n.Value, n.Kids = []byte{1}, nil }), api.ErrForm)
				return
			}
			for _, kids := range [][]api.Node{{{}}, {{Tag: 4}}, {{Tag: tag, Value: []byte{1}}}, {{Tag: 4}, {Tag: 4}}} {
				refuse(t, name, change(func(n *api.Node) { n.Kids = kids }), api.ErrForm)
				refuse(t, name, change(func(n *api.Node) { n.Value, n.Kids = nil, kids }), api.ErrForm)
			}
		})
	}
}

func TestDecodeOfOtherKids(t *testing.T) {
	for name, l := range forms() {
		samples.EachNode(l, func(tag int, change func(func(n *api.Node)) []api.Node) {
			if isPrimitive(tag) {
				return
			}
			refuse(t, name, change(func(n *api.Node) { n.Kids = nil }), api.ErrForm)
			kids := 0
			change(func(n *api.Node) { kids = len(n.Kids) })
			for i := range kids {
				refuse(t, name, change(func(n *api.Node) { n.Kids = slices.Delete(n.Kids, i, i+1) }), api.ErrForm)
				refuse(t, name, change(func(n *api.Node) { n.Kids = slices.Insert(n.Kids, i, n.Kids[i]) }), api.ErrForm)
				refuse(t, name, change(func(n *api.Node) { n.Kids = n.Kids[:i] }), api.ErrForm)
			}
			for i := range kids + 1 {
				for _, more := range []api.Node{{}, {Tag: 4, Value: []byte{1}}, {Tag: 2, Value: []byte{1}}, {Tag: 0x30}, encoded(face())[0], encoded(face())[0].Kids[1]} {
					refuse(t, name, change(func(n *api.Node) { n.Kids = slices.Insert(n.Kids, i, more) }), api.ErrForm)
				}
			}
			for i := range kids {
				for j := range i {
					if tag == 0x7f61 && j > 0 {
						continue // other templates, in another order
					}
					refuse(t, name, change(func(n *api.Node) { n.Kids[i], n.Kids[j] = n.Kids[j], n.Kids[i] }), api.ErrForm)
				}
			}
		})
	}
}

func TestDecodeOfTemplatesInAnotherOrder(t *testing.T) {
	l := encoded(face(), iris(), finger())
	kids := l[0].Kids
	kids[1], kids[2], kids[3] = kids[3], kids[1], kids[2]
	if got, e := Decode(l); e != api.OK || !sameTemplates(got, []api.Template{finger(), face(), iris()}) {
		t.Error(got, e)
	}
}

// Each number has just as many bytes as is said, also where fewer or more of them are the same number.
func TestDecodeOfOtherLengthsOfValues(t *testing.T) {
	for name, l := range forms() {
		samples.EachNode(l, func(tag int, change func(func(n *api.Node)) []api.Node) {
			if !isPrimitive(tag) || tag == 0x5f2e {
				return
			}
			size := 0
			change(func(n *api.Node) { size = len(n.Value) })
			for other := range 12 {
				if other != size {
					refuse(t, name, change(func(n *api.Node) { n.Value = make([]byte, other) }), api.ErrForm)
				}
			}
			refuse(t, name, change(func(n *api.Node) { n.Value = nil }), api.ErrForm)
			refuse(t, name, change(func(n *api.Node) { n.Value = append([]byte{0}, n.Value...) }), api.ErrForm)
			refuse(t, name, change(func(n *api.Node) { n.Value = append(n.Value, 0) }), api.ErrForm)
			refuse(t, name, change(func(n *api.Node) { n.Value = n.Value[1:] }), api.ErrForm)
			refuse(t, name, change(func(n *api.Node) { n.Value = n.Value[:size-1] }), api.ErrForm)
			refuse(t, name, change(func(n *api.Node) { n.Value = samples.Bytes(300) }), api.ErrForm)
		})
	}
}

func TestDecodeOfNoObjectOrTwo(t *testing.T) {
	refuse(t, "nil", nil, api.ErrForm)
	refuse(t, "no object", []api.Node{}, api.ErrForm)
	refuse(t, "a zero object", []api.Node{{}}, api.ErrForm)
	for name, l := range forms() {
		refuse(t, name, append(samples.CopyNodes(l), l[0]), api.ErrForm)
		refuse(t, name, append(samples.CopyNodes(l), api.Node{}), api.ErrForm)
		refuse(t, name, append([]api.Node{{}}, l[0]), api.ErrForm)
		refuse(t, name, append([]api.Node{{Tag: 4}}, l[0]), api.ErrForm)
		refuse(t, name, l[0].Kids, api.ErrForm)
		refuse(t, name, l[0].Kids[1:2], api.ErrForm)
	}
}

// listed returns the objects of a number, and of templates, which need not be that many.
func listed(number int, l ...api.Template) []api.Node {
	list := api.Node{Tag: 0x7f61, Kids: []api.Node{{Tag: 2, Value: []byte{byte(number)}}}}
	for _, x := range l {
		list.Kids = append(list.Kids, encoded(x)[0].Kids[1])
	}
	return []api.Node{list}
}

func TestDecodeOfNumbersOfTemplates(t *testing.T) {
	for count := range 11 {
		for number := range 256 {
			want := api.ErrForm
			if number == count {
				want = api.OK
				if count == 0 || count > api.MaxTemplates {
					want = api.ErrSize
				}
			}
			l := slices.Repeat([]api.Template{face()}, count)
			got, e := Decode(listed(number, l...))
			if e != want || e != api.OK && len(got) != 0 || e == api.OK && !sameTemplates(got, l) {
				t.Errorf("the number %d of %d templates: %d, %+v", number, count, e, got)
			}
		}
	}
	for _, x := range []struct {
		count, number int
		want          api.Errno
	}{
		{254, 255, api.ErrForm}, {255, 255, api.ErrSize}, {256, 255, api.ErrForm}, {256, 0, api.ErrForm}, {257, 1, api.ErrForm}, {257, 0, api.ErrForm}, {264, 8, api.ErrForm},
	} {
		l := slices.Repeat([]api.Template{face()}, x.count)
		refuse(t, "many templates", listed(x.number, l...), x.want)
	}
}

// The errors of the numbers and the data, which are known only where the form is right.
func TestDecodeOfTemplatesThatAreNotValid(t *testing.T) {
	for _, x := range []struct {
		tag   int
		value []byte
		want  api.Errno
	}{
		{0x81, []byte{0}, api.ErrInvalid}, {0x81, []byte{1}, api.ErrInvalid}, {0x81, []byte{2}, api.OK}, {0x81, []byte{3}, api.OK}, {0x81, []byte{4}, api.ErrInvalid}, {0x81, []byte{255}, api.ErrInvalid},
		{0x82, []byte{0}, api.ErrInvalid}, {0x82, []byte{10}, api.OK}, {0x82, []byte{11}, api.ErrInvalid}, {0x82, []byte{255}, api.ErrInvalid},
		{0x83, []byte{0, 0, 0, 0}, api.OK}, {0x83, []byte{0, 0, 0, 100}, api.OK}, {0x83, []byte{0, 0, 0, 101}, api.ErrDate}, {0x83, []byte{0, 0, 1, 0}, api.ErrDate},
		{0x83, []byte{0, 1, 0x1d, 0x58}, api.ErrDate}, {0x83, []byte{255, 255, 255, 255}, api.ErrDate}, {0x83, []byte{128, 0, 0, 0}, api.ErrDate},
		{0x84, []byte{0, 1, 0x1d, 0x58}, api.OK}, {0x84, []byte{0, 1, 0x1d, 0x59}, api.ErrDate}, {0x84, []byte{1, 0, 0, 50}, api.ErrDate}, {0x84, []byte{0, 0, 0, 0}, api.OK},
		{0x84, []byte{255, 255, 255, 255}, api.ErrDate}, {0x84, []byte{128, 0, 0, 0}, api.ErrDate}, {0x84, []byte{0x7f, 255, 255, 255}, api.ErrDate},
		{0x85, []byte{0}, api.OK}, {0x85, []byte{100}, api.OK}, {0x85, []byte{101}, api.ErrRange}, {0x85, []byte{255}, api.ErrRange},
		{0x88, []byte{0, 0}, api.OK}, {0x88, []byte{255, 255}, api.OK},
		{0x5f2e, nil, api.ErrSize}, {0x5f2e, []byte{}, api.ErrSize}, {0x5f2e, []byte{0}, api.OK}, {0x5f2e, samples.Bytes(1024), api.OK}, {0x5f2e, samples.Bytes(1025), api.ErrSize},
	} {
		thumb := finger()
		thumb.Part, thumb.From, thumb.To = 1, 0, 100
		l := encoded(face(), thumb, face())
		samples.SeeNodes(l[0].Kids[2:3], func(n *api.Node) {
			if n.Tag == x.tag {
				n.Value = x.value
			}
		})
		got, e := Decode(l)
		want, wanted := definedDecode(l)
		if e != x.want || wanted != x.want || !sameTemplates(got, want) {
			t.Errorf("%x with %x: %d, %+v", x.tag, x.value, e, got)
		}
	}
}

func TestDecodeOrderOfErrors(t *testing.T) {
	set := func(n *api.Node, number int, value ...byte) { n.Kids[0].Kids[number].Value = value }
	// What makes the object of a template one that is not valid.
	wrongs := []struct {
		want api.Errno
		make func(n *api.Node)
	}{
		{api.ErrInvalid, func(n *api.Node) { set(n, 0, 9) }},
		{api.ErrInvalid, func(n *api.Node) { set(n, 1, 0) }},
		{api.ErrDate, func(n *api.Node) { set(n, 2, 9, 9, 9, 9) }},
		{api.ErrDate, func(n *api.Node) { set(n, 3, 0, 0, 0, 0) }},
		{api.ErrRange, func(n *api.Node) { set(n, 4, 101) }},
		{api.ErrSize, func(n *api.Node) { n.Kids[1].Value = nil }},
	}
	for chosen := range 1 << len(wrongs) {
		l := encoded(finger())
		want := api.OK
		for i := len(wrongs) - 1; i >= 0; i-- {
			if chosen>>i&1 == 1 {
				wrongs[i].make(&l[0].Kids[1])
				want = wrongs[i].want
			}
		}
		if _, e := Decode(l); e != want {
			t.Errorf("wrongs %06b: %d, not %d", chosen, e, want)
		}
	}
	for _, first := range wrongs {
		for _, second := range wrongs {
			l := encoded(finger(), finger(), face())
			first.make(&l[0].Kids[1])
			second.make(&l[0].Kids[2])
			refuse(t, "two templates", l, first.want)
			// The form of a later template comes ahead of the errors of all, and the number of templates, too.
			l[0].Kids[3].Kids[0].Kids[5].Tag++
			refuse(t, "a form behind them", l, api.ErrForm)
			l[0].Kids[3].Kids[0].Kids[5].Tag--
			l[0].Kids[0].Value[0]++
			refuse(t, "another number", l, api.ErrForm)
		}
		// Too many templates are an error ahead of those of each.
		l := listed(api.MaxTemplates+1, slices.Repeat([]api.Template{finger()}, api.MaxTemplates+1)...)
		first.make(&l[0].Kids[1])
		refuse(t, "too many templates", l, api.ErrSize)
		l[0].Kids[api.MaxTemplates+1].Tag++
		refuse(t, "too many templates, the last one without form", l, api.ErrForm)
	}
}

// bend makes a random change at a random place, and returns the list.
func bend(r *rand.Rand, l []api.Node) []api.Node {
	if len(l) == 0 || r.Intn(12) == 0 {
		switch i := r.Intn(len(l) + 1); {
		case i == len(l):
			return append(l, api.Node{Tag: pick(r, 2, 0x81, 0xa1, 0x5f2e, 0x7f60, 0x7f61), Value: []byte{1}})
		case r.Intn(2) == 0:
			return slices.Delete(l, i, i+1)
		default:
			l[i] = l[r.Intn(len(l))]
			return l
		}
	}
	n := &l[r.Intn(len(l))]
	switch {
	case r.Intn(40) == 0:
		n.Tag ^= 1 << r.Intn(17)
	case len(n.Kids) > 0:
		n.Kids = bend(r, n.Kids)
	case len(n.Value) == 0 || r.Intn(10) == 0:
		n.Value = append(n.Value, byte(r.Intn(256)))
	case r.Intn(10) == 0:
		n.Value = n.Value[:r.Intn(len(n.Value))]
	default:
		n.Value[r.Intn(len(n.Value))] = byte(pick(r, 0, 1, 2, 3, 10, 11, 100, 101, 255))
	}
	return l
}

func TestDecodeOfRandomObjects(t *testing.T) {
	r := rand.New(rand.NewSource(4))
	seen := map[api.Errno]int{}
	for range 20000 {
		templates := randomTemplates(r, 1+r.Intn(4))
		for i := range templates {
			// Long data make the search for a form slow.
			if data := templates[i].Data; r.Intn(20) > 0 {
				templates[i].Data = data[:min(len(data), 1+r.Intn(5))]
			}
		}
		l := samples.CopyNodes(encoded(templates...))
		for range r.Intn(4) {
			l = samples.CopyNodes(bend(r, l))
		}
		want, wanted := definedDecode(l)
		got, e := Decode(l)
		if e != wanted || !sameTemplates(got, want) {
			t.Fatalf("%s: %d, not %d", samples.TextOfNodes(l), e, wanted)
		}
		seen[e]++
		if e != api.OK {
			continue
		}
		// Encode(Decode(l)) is l.
		if again, e := Encode(got); e != api.OK || !samples.SameNodes(again, l) {
			t.Fatalf("%s came back as %s: %d", samples.TextOfNodes(l), samples.TextOfNodes(again), e)
		}
	}
	for _, e := range []api.Errno{api.OK, api.ErrForm, api.ErrInvalid, api.ErrDate, api.ErrRange, api.ErrSize} {
		if seen[e] < 50 {
			t.Errorf("the error %d occurred %d times only", e, seen[e])
		}
	}
}

// R1: objects that contain themselves are beyond R10; the call has to come back all the same.
func TestDecodeOfObjectsThatContainThemselves(t *testing.T) {
	for _, tag := range []int{0x7f61, 0x7f60, 0xa1, 2, 0x5f2e} {
		l := []api.Node{{Tag: tag}}
		l[0].Kids = l
		refuse(t, "it contains itself", l, api.ErrForm)
		within := encoded(face(), iris())
		within[0].Kids[1].Kids = l
		refuse(t, "one below contains itself", within, api.ErrForm)
	}
	l := encoded(face())
	l[0].Kids = append(l[0].Kids, l[0])
	l[0].Kids[2].Kids = l[0].Kids
	refuse(t, "a template is the list", l, api.ErrForm)
}

// R2

func TestEncodeSharesNothing(t *testing.T) {
	data := samples.Roomy(samples.Bytes(40))
	l := []api.Template{face(), finger(), iris()}
	// The templates share their bytes; the objects must not.
	for i := range l {
		l[i].Data = data
	}
	before := copyTemplates(l)
	room := bytes.Clone(data[:cap(data)])
	want := encoded(before...)
	first, e := Encode(l)
	if e != api.OK {
		t.Fatal(e)
	}
	second, _ := Encode(l)
	samples.ScribbleNodes(first)
	if !sameTemplates(l, before) || !bytes.Equal(data[:cap(data)], room) {
		t.Error("the result shares memory with the argument")
	}
	if !samples.SameNodes(second, want) {
		t.Error("two results share memory")
	}
	samples.Scribble(data)
	l[0] = api.Template{}
	if !samples.SameNodes(second, want) {
		t.Error("the result shares memory with the argument")
	}
	// What belongs to one object is overwritten, with its room, and the others stay.
	alone := func(l []api.Node) [][]byte {
		var values [][]byte
		samples.SeeNodes(l, func(n *api.Node) { values = append(values, n.Value) })
		return values
	}
	wanted := alone(want)
	for i, value := range alone(second) {
		samples.Scribble(value)
		for j, other := range alone(second) {
			if j > i && !bytes.Equal(other, wanted[j]) {
				t.Errorf("the values %d and %d share memory", i, j)
			}
		}
	}
	third, _ := Encode(before)
	_ = append(third[0].Kids[1].Kids, api.Node{Tag: -9})
	_ = append(third[0].Kids[1].Kids[0].Kids, api.Node{Tag: -9})
	if !samples.SameNodes(third, want) {
		t.Error("the Kids share memory")
	}
}

func TestDecodeSharesNothing(t *testing.T) {
	data := samples.Roomy(samples.Bytes(40))
	x := face()
	x.Data = samples.Bytes(40)
	l := []api.Template{x, x, x}
	nodes := encoded(l...)
	samples.SeeNodes(nodes, func(n *api.Node) {
		n.Value = samples.Roomy(n.Value)
		if n.Tag == 0x5f2e {
			n.Value = data
		}
	})
	before := samples.CopyNodes(nodes)
	room := bytes.Clone(data[:cap(data)])
	first, e := Decode(nodes)
	if e != api.OK {
		t.Fatal(e)
	}
	second, _ := Decode(nodes)
	for i := range first {
		samples.Scribble(first[i].Data)
		if i+1 < len(first) && !sameTemplates(first[i+1:], l[i+1:]) {
			t.Error("two templates share memory")
		}
		first[i] = api.Template{Kind: -9}
	}
	if !samples.SameNodes(nodes, before) || !bytes.Equal(data[:cap(data)], room) {
		t.Error("the result shares memory with the argument")
	}
	samples.ScribbleNodes(nodes)
	if !sameTemplates(second, l) {
		t.Error("the result shares memory with the argument, or with another result")
	}
}

func TestErrorsChangeNothing(t *testing.T) {
	for _, l := range forms() {
		l[0].Kids[len(l[0].Kids)-1].Kids[0].Kids[5].Tag++
		before := samples.CopyNodes(l)
		refuse(t, "another tag", l, api.ErrForm)
		if !samples.SameNodes(l, before) {
			t.Error("the argument is another one now")
		}
	}
	for _, d := range defects {
		l := []api.Template{face(), finger()}
		d.make(&l[1])
		before := copyTemplates(l)
		if _, e := Encode(l); e != d.want || !sameTemplates(l, before) {
			t.Error("the argument is another one now", e)
		}
	}
}
