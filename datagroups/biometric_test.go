package datagroups

import (
	"bytes"
	"slices"
	"testing"

	"traveldoc/api"
	"traveldoc/biometrics"
	"traveldoc/samples"
)

// P15.5

func face() api.Template {
	return api.Template{Kind: api.TemplateFace, From: 0, To: 100, Format: 1, Quality: 50, Data: []byte{7}}
}

func finger() api.Template {
	return api.Template{Kind: api.TemplateFinger, Part: 10, From: 36524, To: 73048, Format: 65535, Quality: 100, Data: []byte{8, 9, 0}}
}

func iris() api.Template {
	return api.Template{Kind: api.TemplateIris, Part: 2, From: 258, To: 66051, Format: 258, Data: []byte{0xff, 0}}
}

// kindOf are the templates of each group.
func kindOf() map[int]api.Template {
	return map[int]api.Template{2: face(), 3: finger(), 4: iris()}
}

// sized returns a template with so many bytes of Data.
func sized(x api.Template, size int) api.Template {
	x.Data = samples.Bytes(size)
	return x
}

// biometricFile returns the bytes of a group with these templates, whatever their kinds are.
func biometricFile(t *testing.T, number int, l ...api.Template) []byte {
	t.Helper()
	objects, e := biometrics.Encode(l)
	if e != api.OK {
		t.Fatal(e)
	}
	return fileOf(number, objects...)
}

func TestBiometric(t *testing.T) {
	for _, x := range []struct {
		number int
		l      []api.Template
		want   string
	}{
		{
			2, []api.Template{face()},
			"75 28 7f61 25 02 01 01" +
				"7f60 1f a1 19 81 01 01 82 01 00 83 04 00000000 84 04 00000064 85 01 32 88 02 0001 5f2e 01 07",
		},
		{
			3, []api.Template{finger(), finger()},
			"63 4e 7f61 4b 02 01 02" +
				"7f60 21 a1 19 81 01 02 82 01 0a 83 04 00008eac 84 04 00011d58 85 01 64 88 02 ffff 5f2e 03 080900" +
				"7f60 21 a1 19 81 01 02 82 01 0a 83 04 00008eac 84 04 00011d58 85 01 64 88 02 ffff 5f2e 03 080900",
		},
		{
			4, []api.Template{iris()},
			"76 29 7f61 26 02 01 01" +
				"7f60 20 a1 19 81 01 03 82 01 02 83 04 00000102 84 04 00010203 85 01 00 88 02 0102 5f2e 02 ff00",
		},
	} {
		b, e := Biometric(x.number, x.l)
		written(t, "templates", b, e, x.want, api.OK)
		expect(t, "templates", b, api.OK)
		number, back, e := OpenBiometric(b)
		if number != x.number || e != api.OK || !sameTemplates(back, x.l) {
			t.Errorf("%+v came back as %d, %+v and %d", x.l, number, back, e)
		}
	}
}

// sameTemplates compares templates.
func sameTemplates(a, b []api.Template) bool {
	return slices.EqualFunc(a, b, func(x, y api.Template) bool {
		same := bytes.Equal(x.Data, y.Data)
		x.Data, y.Data = nil, nil
		return same && x.Kind == y.Kind && x.Part == y.Part && x.From == y.From && x.To == y.To && x.Format == y.Format && x.Quality == y.Quality
	})
}

func TestBiometricOfNumbersOfTemplates(t *testing.T) {
	for number, x := range kindOf() {
		for n := range 20 {
			l := slices.Repeat([]api.Template{x}, n)
			b, e := Biometric(number, l)
			if n == 0 || n > api.MaxTemplates {
				refused(t, "another number of templates", b, e, api.ErrSize)
				continue
			}
			if e != api.OK || !bytes.Equal(b, biometricFile(t, number, l...)) {
				t.Errorf("%d templates of group %d: %x and %d", n, number, b, e)
			}
			expect(t, "templates", b, api.OK)
		}
	}
}

func TestBiometricOfOtherKinds(t *testing.T) {
	for number, own := range kindOf() {
		for other, x := range kindOf() {
			want := api.OK
			if number != other {
				want = api.ErrInvalid
			}
			for _, l := range [][]api.Template{{x}, {own, x}, {x, own}, {own, own, x, own}, {own, own, own, own, own, own, own, x}, {x, x, x}} {
				b, e := Biometric(number, l)
				if e != want || (len(b) == 0) != (e != api.OK) {
					t.Errorf("group %d with a template of %d: %x and %d", number, other, b, e)
				}
				expect(t, "another kind", biometricFile(t, number, l...), want)
			}
		}
	}
}

func TestBiometricOfOtherNumbers(t *testing.T) {
	for _, number := range around() {
		if number >= 2 && number <= 4 {
			continue
		}
		// The number comes ahead of the templates.
		for _, l := range [][]api.Template{{face()}, {finger()}, {iris()}, nil, {{}}, slices.Repeat([]api.Template{face()}, 9)} {
			b, e := Biometric(number, l)
			refused(t, "another number", b, e, api.ErrRange)
		}
	}
}

// templateDefects make a template one that is not valid.
var templateDefects = []struct {
	want api.Errno
	make func(x *api.Template)
}{
	{api.ErrInvalid, func(x *api.Template) { x.Kind = 4 }},
	{api.ErrInvalid, func(x *api.Template) { x.Part = 11 }},
	{api.ErrDate, func(x *api.Template) { x.From = x.To + 1 }},
	{api.ErrRange, func(x *api.Template) { x.Quality = 101 }},
	{api.ErrRange, func(x *api.Template) { x.Format = -1 }},
	{api.ErrSize, func(x *api.Template) { x.Data = nil }},
	{api.ErrSize, func(x *api.Template) { x.Data = make([]byte, 1025) }},
}

func TestBiometricOrderOfErrors(t *testing.T) {
	for _, d := range templateDefects {
		for number, own := range kindOf() {
			bad := own
			d.make(&bad)
			for other, x := range kindOf() {
				// The error of a template comes ahead of the kind of any.
				for _, l := range [][]api.Template{{bad}, {x, bad}, {bad, x}, {x, own, bad}} {
					b, e := Biometric(number, l)
					refused(t, "a template that is not valid", b, e, d.want)
				}
				b, e := Biometric(number, append(slices.Repeat([]api.Template{x}, 8), bad))
				refused(t, "too many templates", b, e, api.ErrSize)
				if other != number {
					b, e = Biometric(number, []api.Template{x, x})
					refused(t, "another kind", b, e, api.ErrInvalid)
				}
			}
		}
	}
}

// Templates that are valid by themselves may have more bytes than a file.
func TestBiometricOfGreatTemplates(t *testing.T) {
	for number, x := range kindOf() {
		for _, l := range [][]api.Template{
			{sized(x, 1024)}, {sized(x, 1024), sized(x, 1024), sized(x, 1024)}, {sized(x, 127)}, {sized(x, 128), sized(x, 256), x},
		} {
			b, e := Biometric(number, l)
			if e != api.OK || !bytes.Equal(b, biometricFile(t, number, l...)) {
				t.Errorf("%x and %d", b, e)
			}
			if n, back, e := OpenBiometric(b); n != number || e != api.OK || !sameTemplates(back, l) {
				t.Errorf("%d and %d", n, e)
			}
		}
		// The lengths around the Data: 4 for the file, 5 and 3 for the list and the number of templates, 5, 27 and 5 for each template.
		full := []api.Template{sized(x, 1024), sized(x, 1024), sized(x, 1024), sized(x, api.MaxBytes-12-4*37-3*1024)}
		b, e := Biometric(number, full)
		if e != api.OK || len(b) != api.MaxBytes {
			t.Errorf("%d bytes and %d", len(b), e)
		}
		expect(t, "as many bytes as may be", b, api.OK)
		full[3] = sized(x, len(full[3].Data)+1)
		b, e = Biometric(number, full)
		refused(t, "a byte more", b, e, api.ErrSize)
		b, e = Biometric(number, slices.Repeat([]api.Template{sized(x, 1024)}, 8))
		refused(t, "all that templates may have", b, e, api.ErrSize)
		// The kind comes ahead of it.
		for other, y := range kindOf() {
			if other != number {
				b, e = Biometric(number, append(slices.Repeat([]api.Template{sized(x, 1024)}, 7), y))
				refused(t, "another kind", b, e, api.ErrInvalid)
			}
		}
	}
}

func TestOpenBiometricOfOtherObjects(t *testing.T) {
	list := func(l ...api.Template) api.Node {
		objects, e := biometrics.Encode(l)
		if e != api.OK {
			t.Fatal(e)
		}
		return objects[0]
	}
	for number, own := range kindOf() {
		for _, x := range []struct {
			name string
			l    []api.Node
		}{
			{"no Kid", nil},
			{"another object", []api.Node{leaf(4, 1)}},
			{"the list twice", []api.Node{list(own), list(own)}},
			{"an object ahead", []api.Node{leaf(4), list(own)}},
			{"an object behind", []api.Node{list(own), leaf(4)}},
			{"a template without a list", list(own).Kids[1:]},
			{"the Kids of the list", list(own).Kids},
			{"the list within another one", []api.Node{branch(0x7f61, list(own))}},
		} {
			expect(t, x.name, fileOf(number, x.l...), api.ErrForm)
		}
		// Each object of another form, also where another kind would be an error behind it.
		for _, l := range []api.Node{list(own), list(own, face(), finger(), iris())} {
			samples.EachNode([]api.Node{l}, func(tag int, change func(func(n *api.Node)) []api.Node) {
				expect(t, "another tag", fileOf(number, change(func(n *api.Node) { n.Tag ^= 8 })...), api.ErrForm)
			})
		}
		// A number that says something else, and one that is right, but too great.
		other := list(own, own)
		other.Kids[0].Value[0] = 1
		expect(t, "another number of templates", fileOf(number, other), api.ErrForm)
		none := list(own)
		none.Kids = []api.Node{leaf(2, 0)}
		expect(t, "no template", fileOf(number, none), api.ErrSize)
		many := list(slices.Repeat([]api.Template{own}, 8)...)
		many.Kids = append(many.Kids, many.Kids[1])
		many.Kids[0].Value[0] = 9
		expect(t, "too many templates", fileOf(number, many), api.ErrSize)
	}
}

func TestOpenBiometricOrderOfErrors(t *testing.T) {
	// What makes the object of a template one that is not valid.
	wrongs := []struct {
		want api.Errno
		make func(n *api.Node)
	}{
		{api.ErrInvalid, func(n *api.Node) { n.Kids[0].Kids[0].Value[0] = 4 }},
		{api.ErrInvalid, func(n *api.Node) { n.Kids[0].Kids[1].Value[0] = 99 }},
		{api.ErrDate, func(n *api.Node) { n.Kids[0].Kids[3].Value[0] = 9 }},
		{api.ErrRange, func(n *api.Node) { n.Kids[0].Kids[4].Value[0] = 101 }},
		{api.ErrSize, func(n *api.Node) { n.Kids[1].Value = nil }},
	}
	for _, w := range wrongs {
		for number, own := range kindOf() {
			for _, x := range kindOf() {
				for at := range 3 {
					l, e := biometrics.Encode([]api.Template{x, own, x})
					if e != api.OK {
						t.Fatal(e)
					}
					// It comes ahead of the kinds, which are others in most of these files.
					w.make(&l[0].Kids[1+at])
					expect(t, "a template that is not valid", fileOf(number, l...), w.want)
					l[0].Kids[0].Value[0]++
					expect(t, "and another number of templates", fileOf(number, l...), api.ErrForm)
				}
			}
		}
	}
}
