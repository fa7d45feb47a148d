package datagroups

import (
	"bytes"
	"math/rand"
	"slices"
	"strings"
	"testing"

	"traveldoc/api"
	"traveldoc/samples"
	"traveldoc/tlv"
)

// The tests of all functions that open a file.

// files returns files of all groups, as this layer writes them.
func files(t *testing.T) [][]byte {
	t.Helper()
	var l [][]byte
	add := func(b []byte, e api.Errno) {
		t.Helper()
		if e != api.OK {
			t.Fatal(e)
		}
		l = append(l, b)
	}
	for _, x := range zones() {
		add(Zone(x.zone))
	}
	for number, x := range kindOf() {
		add(Biometric(number, []api.Template{x}))
		add(Biometric(number, []api.Template{x, sized(x, 300)}))
	}
	for number := 5; number <= 18; number++ {
		switch number {
		case 11, 12:
			add(Details(number, nil))
			add(Details(number, detailsOf(tagsOf(number)[1:]...)))
		case 14:
			add(Infos(nil))
			add(Infos(allInfos()))
		case 15:
			add(Active(key))
		case 17:
			add(Common(nil))
			add(Common([]int{1, 2, 3, 11, 14, 15}))
		default:
			add(Wrap(number, []api.Node{leaf(4, 1, 2), branch(0x30, leaf(0x5f1f, 9), branch(0x31))}))
		}
	}
	return l
}

// Each function opens the files of its groups, and none of another one, whatever is in it.
func TestOpenersOfOtherGroups(t *testing.T) {
	for _, b := range files(t) {
		for _, tag := range hexNumbers(definedTags) {
			changed := slices.Clone(b)
			changed[0] = byte(tag)
			for _, o := range openers() {
				e := agree(t, o, "another group", changed)
				own := slices.Contains(o.groups, definedGroup(tag))
				if !own && e != api.ErrTag || own && tag == int(b[0]) && e != api.OK {
					t.Errorf("%s of %x: %d", o.name, changed, e)
				}
			}
		}
		// No group's tag at all.
		for _, tag := range []byte{0x04, 0x30, 0x62, 0x64, 0x71, 0x74, 0x78} {
			changed := slices.Clone(b)
			changed[0] = tag
			for _, o := range openers() {
				if e := agree(t, o, "no group", changed); e != api.ErrTag {
					t.Errorf("%s of %x: %d", o.name, changed, e)
				}
			}
		}
		// A file twice, and with half of another one behind it.
		for _, o := range openers() {
			if e := agree(t, o, "twice", append(slices.Clone(b), b...)); e != api.ErrForm {
				t.Errorf("%s of %x, twice: %d", o.name, b, e)
			}
			if e := agree(t, o, "and a half", append(slices.Clone(b), b[:len(b)-1]...)); e != api.ErrTruncated && len(b) > 2 {
				t.Errorf("%s of %x, and a half: %d", o.name, b, e)
			}
			for i := range b {
				agree(t, o, "cut off", b[:i])
			}
		}
	}
}

// A file that was written with other forms of lengths is opened, too, with the same result.
func TestOpenersOfOtherFormsOfLengths(t *testing.T) {
	r := rand.New(rand.NewSource(3))
	for _, b := range files(t) {
		l, e := tlv.Parse(b, true)
		if e != api.OK {
			t.Fatalf("%x is not strict: %d", b, e)
		}
		for range 40 {
			other := samples.Loose(r.Intn, l)
			for _, o := range openers() {
				want, wanted := o.open(b)
				if got, e := o.open(other); got != want || e != wanted {
					t.Errorf("%s of %x: %s and %d, not %s and %d", o.name, other, got, e, want, wanted)
				}
				agree(t, o, "other lengths", other)
			}
		}
	}
}

// bend makes a random change at a random place, and returns the list.
func bend(r *rand.Rand, l []api.Node) []api.Node {
	if len(l) == 0 || r.Intn(10) == 0 {
		switch i := r.Intn(len(l) + 1); {
		case i == len(l):
			return append(l, leaf([]int{2, 4, 0x5c, 0x5f1f, 0x5f0e, 0x5f19}[r.Intn(6)], 1))
		case r.Intn(2) == 0:
			return slices.Delete(l, i, i+1)
		default:
			j := r.Intn(len(l))
			l[i], l[j] = l[j], l[i]
			return l
		}
	}
	n := &l[r.Intn(len(l))]
	switch {
	case r.Intn(30) == 0:
		n.Tag = []int{n.Tag ^ 1, n.Tag ^ 2, 0x5c, 4, 0x61, 0x75, 0x63, 0x6b, 0x6c, 0x5f0e, 0x5f19, 0x5f42}[r.Intn(12)]
	case len(n.Kids) > 0:
		n.Kids = bend(r, n.Kids)
	case len(n.Value) == 0 || r.Intn(6) == 0:
		n.Value = append(n.Value, byte(r.Intn(256)))
	case r.Intn(6) == 0:
		n.Value = n.Value[:r.Intn(len(n.Value))]
	case r.Intn(3) == 0:
		i, j := r.Intn(len(n.Value)), r.Intn(len(n.Value))
		n.Value[i], n.Value[j] = n.Value[j], n.Value[i]
	default:
		n.Value[r.Intn(len(n.Value))] = []byte{0, 1, 2, 3, 4, '<', 'A', 0x61, 0x75, 0x5f, 255}[r.Intn(11)]
	}
	return l
}

func TestOpenersOfRandomFiles(t *testing.T) {
	r := rand.New(rand.NewSource(4))
	all := files(t)
	seen := map[string]map[api.Errno]int{}
	for _, o := range openers() {
		seen[o.name] = map[api.Errno]int{}
	}
	for range 12000 {
		l, _ := tlv.Parse(all[r.Intn(len(all))], true)
		for range r.Intn(3) {
			l = bend(r, samples.CopyNodes(l))
		}
		b := samples.Loose(r.Intn, l)
		for _, o := range openers() {
			seen[o.name][agree(t, o, "random", b)]++
		}
	}
	for name, errors := range map[string][]api.Errno{
		"Open":          {api.OK, api.ErrForm, api.ErrTag},
		"Groups":        {api.OK, api.ErrForm, api.ErrTag, api.ErrOrder},
		"OpenZone":      {api.OK, api.ErrForm, api.ErrTag, api.ErrSize, api.ErrDigit, api.ErrCharacter},
		"OpenBiometric": {api.OK, api.ErrForm, api.ErrTag, api.ErrInvalid},
		"OpenDetails":   {api.OK, api.ErrForm, api.ErrTag, api.ErrSize},
		"OpenInfos":     {api.OK, api.ErrForm, api.ErrTag, api.ErrRange},
		"OpenActive":    {api.OK, api.ErrForm, api.ErrTag, api.ErrSize, api.ErrGroup},
	} {
		for _, e := range errors {
			if seen[name][e] < 10 {
				t.Errorf("the error %d of %s occurred %d times only", e, name, seen[name][e])
			}
		}
	}
}

// Of bytes that are no files at all.
func TestOpenersOfRandomBytes(t *testing.T) {
	r := rand.New(rand.NewSource(5))
	for range 5000 {
		b := make([]byte, r.Intn(12))
		r.Read(b)
		if len(b) > 1 && r.Intn(2) == 0 {
			b[0], b[1] = byte(hexNumbers(definedTags)[r.Intn(18)]), byte(len(b)-2)
		}
		for _, o := range openers() {
			agree(t, o, "bytes", b)
		}
	}
}

// R2

// What was given stays as it was, with the room behind it.
func TestOpenersChangeNothing(t *testing.T) {
	for _, b := range files(t) {
		roomy := samples.Roomy(b)
		before := bytes.Clone(roomy[:cap(roomy)])
		for _, o := range openers() {
			o.open(roomy)
			if !bytes.Equal(roomy[:cap(roomy)], before) {
				t.Errorf("%s changes the bytes that it is given", o.name)
			}
		}
	}
}

func TestResultsOfOpenShareNothing(t *testing.T) {
	for _, b := range files(t) {
		given := bytes.Clone(b)
		number, first, e := Open(given)
		if e != api.OK {
			t.Fatal(e)
		}
		_, second, _ := Open(given)
		want := samples.TextOfNodes(second)
		for i := range first {
			samples.ScribbleNodes(first[i : i+1 : i+1])
			if samples.TextOfNodes(first[i+1:]) != samples.TextOfNodes(second[i+1:]) {
				t.Errorf("two Kids of group %d share memory", number)
			}
		}
		samples.ScribbleNodes(first)
		if !bytes.Equal(given, b) {
			t.Errorf("the Kids of group %d share memory with the bytes", number)
		}
		samples.Scribble(given)
		if samples.TextOfNodes(second) != want {
			t.Errorf("the Kids of group %d share memory with the bytes, or with another result", number)
		}
	}
}

func TestResultsOfOpenersShareNothing(t *testing.T) {
	// All that is text stays when the bytes that were given turn.
	for _, b := range files(t) {
		given := bytes.Clone(b)
		groups, _ := Groups(given)
		z, _ := OpenZone(given)
		_, templates, _ := OpenBiometric(given)
		_, details, _ := OpenDetails(given)
		infos, _ := OpenInfos(given)
		samples.Scribble(given)
		again, _ := Groups(b)
		if !slices.Equal(groups, again) {
			t.Error("the groups share memory with the bytes", groups)
		}
		if other, _ := OpenZone(b); z != other {
			t.Error("the zone shares memory with the bytes", z)
		}
		if _, other, _ := OpenBiometric(b); !sameTemplates(templates, other) {
			t.Error("the templates share memory with the bytes", templates)
		}
		if _, other, _ := OpenDetails(b); !slices.Equal(details, other) {
			t.Error("the details share memory with the bytes", details)
		}
		if other, _ := OpenInfos(b); !slices.Equal(infos, other) {
			t.Error("the infos share memory with the bytes", infos)
		}
		// And the other way round, with the room behind the results.
		given = bytes.Clone(b)
		groups, _ = Groups(given)
		_, templates, _ = OpenBiometric(given)
		_, details, _ = OpenDetails(given)
		infos, _ = OpenInfos(given)
		for i := range groups[:cap(groups)] {
			groups[:cap(groups)][i] = -9
		}
		for i := range templates {
			samples.Scribble(templates[i].Data)
		}
		clear(templates[:cap(templates)])
		clear(details[:cap(details)])
		clear(infos[:cap(infos)])
		if !bytes.Equal(given, b) {
			t.Errorf("a result shares memory with the bytes: %x", given)
		}
		if other, _ := Groups(given); !slices.Equal(other, again) {
			t.Error("two results share memory", other)
		}
	}
	// The Data of equal templates.
	b, _ := Biometric(2, []api.Template{sized(face(), 40), sized(face(), 40)})
	_, l, _ := OpenBiometric(b)
	if samples.Scribble(l[0].Data); !bytes.Equal(l[1].Data, samples.Bytes(40)) {
		t.Error("two templates share memory")
	}
}

func TestWritersShareNothing(t *testing.T) {
	// turn calls a writer twice, turns the first file and then what was given, and compares the second file with what it was.
	turn := func(name string, write func() ([]byte, api.Errno), isSame func() bool, scribble func()) {
		t.Helper()
		first, e := write()
		second, _ := write()
		if e != api.OK {
			t.Fatal(name, e)
		}
		if !isSame() {
			t.Errorf("%s changes what it is given", name)
		}
		want := bytes.Clone(second)
		samples.Scribble(first)
		if !isSame() {
			t.Errorf("the file of %s shares memory with what was given", name)
		}
		if scribble(); !bytes.Equal(second, want) {
			t.Errorf("the file of %s shares memory with what was given, or with another file", name)
		}
	}
	nodes := []api.Node{leaf(4, samples.Roomy([]byte{1, 2})...), branch(0x30, leaf(4, 3), leaf(4, 4))}
	keptNodes := samples.CopyNodes(nodes)
	turn("Wrap", func() ([]byte, api.Errno) { return Wrap(5, nodes) },
		func() bool { return samples.SameNodes(nodes, keptNodes) }, func() { samples.ScribbleNodes(nodes) })
	groups := append([]int{1, 2, 14}, 99)[:3]
	turn("Common", func() ([]byte, api.Errno) { return Common(groups) },
		func() bool { return slices.Equal(groups[:4], []int{1, 2, 14, 99}) }, func() { clear(groups) })
	templates := []api.Template{sized(face(), 50), sized(face(), 50)}
	turn("Biometric", func() ([]byte, api.Errno) { return Biometric(2, templates) },
		func() bool {
			return sameTemplates(templates, []api.Template{sized(face(), 50), sized(face(), 50)})
		},
		func() { samples.Scribble(templates[0].Data); clear(templates) })
	details := append(detailsOf(0x5f0e, 0x5f42), api.Detail{Tag: 9})[:2]
	turn("Details", func() ([]byte, api.Errno) { return Details(11, details) },
		func() bool {
			return slices.Equal(details[:3], append(detailsOf(0x5f0e, 0x5f42), api.Detail{Tag: 9}))
		}, func() { clear(details) })
	infos := append(allInfos(), api.Info{Protocol: 9})[:5]
	turn("Infos", func() ([]byte, api.Errno) { return Infos(infos) },
		func() bool { return slices.Equal(infos[:6], append(allInfos(), api.Info{Protocol: 9})) }, func() { clear(infos) })
	turn("Zone", func() ([]byte, api.Errno) { return Zone(zones()[0].zone) }, func() bool { return true }, func() {})
	turn("Active", func() ([]byte, api.Errno) { return Active(key) }, func() bool { return true }, func() {})
}

// What was given stays also where there is an error.
func TestErrorsChangeNothing(t *testing.T) {
	groups := []int{1, 16, 15}
	details := append(detailsOf(0x5f0e, 0x5f19), api.Detail{Tag: 0x5f0e, Text: strings.Repeat("A", 100)})
	templates := []api.Template{face(), finger()}
	infos := append(allInfos(), allInfos()...)
	nodes := []api.Node{leaf(4, 1), leaf(0x30, 1), {}}
	Common(groups)
	Details(11, details)
	Biometric(2, templates)
	Infos(infos)
	Wrap(2, nodes)
	if !slices.Equal(groups, []int{1, 16, 15}) || !slices.Equal(details[:2], detailsOf(0x5f0e, 0x5f19)) || len(details[2].Text) != 100 ||
		!sameTemplates(templates, []api.Template{face(), finger()}) || !slices.Equal(infos, append(allInfos(), allInfos()...)) ||
		!samples.SameNodes(nodes, []api.Node{leaf(4, 1), leaf(0x30, 1), {}}) {
		t.Error("what was given is another one now")
	}
}

// The consequence: what is opened is what was written.
func TestWhatIsOpenedIsWhatWasWritten(t *testing.T) {
	for _, b := range files(t) {
		number, l, e := Open(b)
		if e != api.OK || number != definedGroup(int(b[0])) {
			t.Fatal(number, e)
		}
		again, e := Wrap(number, l)
		if e != api.OK || !bytes.Equal(again, b) {
			t.Errorf("%x was opened and written as %x: %d", b, again, e)
		}
		e = api.ErrTag
		switch number {
		case 1:
			z, _ := OpenZone(b)
			again, e = Zone(z)
		case 2, 3, 4:
			_, l, _ := OpenBiometric(b)
			again, e = Biometric(number, l)
		case 11, 12:
			_, l, _ := OpenDetails(b)
			again, e = Details(number, l)
		case 14:
			l, _ := OpenInfos(b)
			again, e = Infos(l)
		case 15:
			k, _ := OpenActive(b)
			again, e = Active(k)
		case 17:
			l, _ := Groups(b)
			again, e = Common(l)
		default:
			continue
		}
		if e != api.OK || !bytes.Equal(again, b) {
			t.Errorf("%x was opened and written as %x: %d", b, again, e)
		}
	}
}

// The examples at the chapter's end.
func TestExamples(t *testing.T) {
	if id, short, e := File(2); id != 0x102 || short != 2 || e != api.OK {
		t.Error(id, short, e)
	}
	if b, e := Common([]int{1, 2, 14}); e != api.OK || !bytes.HasSuffix(b, samples.Unhex("5c 03 61 75 6e")) {
		t.Errorf("%x and %d", b, e)
	}
	if b, e := Common([]int{2, 1}); e != api.ErrOrder || len(b) != 0 {
		t.Errorf("%x and %d", b, e)
	}
	if number, l, e := Open([]byte{4, 0}); e != api.ErrTag || number != 0 || len(l) != 0 {
		t.Error(number, l, e)
	}
}
