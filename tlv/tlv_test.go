package tlv

import (
	"bytes"
	"math"
	"math/rand"
	"strings"
	"testing"

	"traveldoc/api"
	"traveldoc/samples"
)

// Help for the tests of this package.

func leaf(tag int, value ...byte) api.Node { return api.Node{Tag: tag, Value: value} }

func branch(tag int, kids ...api.Node) api.Node { return api.Node{Tag: tag, Kids: kids} }

// tower returns one object within the other, depth in all; all but the innermost one have the tag 0x30.
func tower(depth int, innermost api.Node) api.Node {
	n := innermost
	for range depth - 1 {
		n = branch(0x30, n)
	}
	return n
}

// many returns n primitive objects without a value.
func many(n int) []api.Node {
	l := make([]api.Node, n)
	for i := range l {
		l[i].Tag = 4
	}
	return l
}

// tags returns all tags, made of the bytes that the definition names, in ascending order.
func tags() []int {
	var out []int
	for first := 1; first < 256; first++ {
		if first%32 != 31 {
			out = append(out, first)
		}
	}
	for first := 31; first < 256; first += 32 {
		for second := 1; second < 128; second++ {
			out = append(out, 256*first+second)
		}
	}
	return out
}

// forest returns random objects that Encode accepts.
func forest(r *rand.Rand, depth int) []api.Node {
	all := tags()
	l := make([]api.Node, r.Intn(4))
	for i := range l {
		l[i].Tag = all[r.Intn(len(all))]
		if Constructed(l[i].Tag) && depth < api.MaxDepth {
			l[i].Kids = forest(r, depth+1)
		}
		if !Constructed(l[i].Tag) {
			sizes := []int{0, 1, 2, 3, 20, 126, 127, 128, 129, 255, 256, 257}
			l[i].Value = samples.Bytes(sizes[r.Intn(len(sizes))])
		}
	}
	return l
}

// texts calls see with each text of up to longest bytes that has only the bytes in alphabet.
func texts(alphabet []byte, longest int, see func(b []byte)) {
	b := make([]byte, 0, longest)
	var grow func()
	grow = func() {
		see(b)
		if len(b) == longest {
			return
		}
		for _, c := range alphabet {
			b = append(b, c)
			grow()
			b = b[:len(b)-1]
		}
	}
	grow()
}

// critical has a byte for each case that the grammar of an encoding distinguishes.
var critical = []byte{0x00, 0x01, 0x02, 0x1f, 0x30, 0x80, 0x81, 0x82, 0x85}

// P2.1

func TestValid(t *testing.T) {
	for _, x := range []struct {
		tag  int
		want bool
	}{
		{0x5f1f, true}, {0x30, true}, {0x1f, false}, {0x5f80, false},
		{0, false}, {1, true}, {0x1e, true}, {0x20, true}, {0xfe, true}, {0xff, false},
		{0x1f00, false}, {0x1f01, true}, {0x1f1e, true}, {0x1f7f, true}, {0x1f80, false}, {0x1fff, false},
		{0xff7f, true}, {0xff80, false}, {0x0130, false}, {0x3001, false}, {0x100, false},
		{0x10030, false}, {0x11f01, false}, {0x1f0101, false}, {0x1f1f01, false},
		{-1, false}, {-0x30, false}, {0x5f1f - 1<<16, false},
		{1<<32 + 0x30, false}, {1<<32 + 0x5f1f, false}, {math.MinInt, false}, {math.MinInt + 0x30, false}, {math.MaxInt, false},
	} {
		if got := Valid(x.tag); got != x.want {
			t.Errorf("Valid(%#x) = %v", x.tag, got)
		}
	}
}

func TestValidOfAllNumbers(t *testing.T) {
	valid := map[int]bool{}
	for _, tag := range tags() {
		valid[tag] = true
	}
	for tag := -70000; tag < 200000; tag++ {
		if got := Valid(tag); got != valid[tag] {
			t.Errorf("Valid(%#x) = %v", tag, got)
		}
	}
}

func TestConstructed(t *testing.T) {
	for _, x := range []struct {
		tag  int
		want bool
	}{
		{0x30, true}, {0x31, true}, {0x20, true}, {0x3e, true}, {0x60, true}, {0xa0, true}, {0xfe, true},
		{0x02, false}, {0x04, false}, {0x1e, false}, {0x40, false}, {0x80, false}, {0xde, false},
		{0x7f4e, true}, {0x7f61, true}, {0x3f01, true}, {0xff7f, true},
		{0x5f1f, false}, {0x5f2e, false}, {0x1f20, false}, {0x1f7f, false}, {0xdf20, false},
		// Not tags, so not tags of constructed objects either.
		{0, false}, {0x3f, false}, {0x7f, false}, {0xff, false}, {0x7f80, false}, {0x7f00, false},
		{0x3001, false}, {0x2020, false}, {0x10030, false}, {0x107f4e, false},
		{-1, false}, {math.MinInt + 0x30, false}, {math.MaxInt, false}, {math.MinInt, false},
	} {
		if got := Constructed(x.tag); got != x.want {
			t.Errorf("Constructed(%#x) = %v", x.tag, got)
		}
	}
}

func TestConstructedOfAllTags(t *testing.T) {
	want := map[int]bool{}
	for _, tag := range tags() {
		first := tag
		if tag > 255 {
			first = tag / 256
		}
		want[tag] = first/32%2 == 1
	}
	for tag := -70000; tag < 200000; tag++ {
		if got := Constructed(tag); got != want[tag] {
			t.Errorf("Constructed(%#x) = %v", tag, got)
		}
	}
}

// P2.5: Find

func TestFind(t *testing.T) {
	l := []api.Node{
		leaf(4, 1),
		branch(0x30, leaf(2, 2), leaf(2, 3), branch(0x31, leaf(4, 4)), branch(0x31, leaf(5, 5))),
		branch(0x30, leaf(2, 6), leaf(6, 7)),
		branch(0x7f4e, leaf(0x5f1f, 8), branch(0x30)),
		leaf(0x5f35, 9), branch(0x7f35, leaf(0x5f04, 10), leaf(0x1f04, 11), leaf(4, 12)), leaf(0x35, 13),
	}
	for _, x := range []struct {
		path []int
		want api.Node
		ok   bool
	}{
		{[]int{4}, leaf(4, 1), true},
		{[]int{0x30}, l[1], true},
		{[]int{0x30, 2}, leaf(2, 2), true},
		{[]int{0x30, 0x31}, branch(0x31, leaf(4, 4)), true},
		{[]int{0x30, 0x31, 4}, leaf(4, 4), true},
		{[]int{0x7f4e, 0x5f1f}, leaf(0x5f1f, 8), true},
		{[]int{0x7f4e, 0x30}, branch(0x30), true},
		{[]int{0x7f4e}, l[3], true},
		// Tags of two bytes have either byte in common with others.
		{[]int{0x35}, leaf(0x35, 13), true},
		{[]int{0x7f35, 4}, leaf(4, 12), true},
		{[]int{0x7f35, 0x1f04}, leaf(0x1f04, 11), true},
		{[]int{0x7f35, 0x5f}, api.Node{}, false},
		{[]int{0x5f1f}, api.Node{}, false},
		// Only the first one of several is followed.
		{[]int{0x30, 6}, api.Node{}, false},
		{[]int{0x30, 0x31, 5}, api.Node{}, false},
		// Kids are not searched for the first tag, nor are objects beside the path.
		{[]int{2}, api.Node{}, false},
		{[]int{0x30, 4}, api.Node{}, false},
		{[]int{0x30, 0x30}, api.Node{}, false},
		{[]int{4, 4}, api.Node{}, false},
		{[]int{0x7f4e, 0x30, 2}, api.Node{}, false},
		{[]int{5}, api.Node{}, false},
		{[]int{0}, api.Node{}, false},
		{[]int{-1}, api.Node{}, false},
		{nil, api.Node{}, false},
		{[]int{}, api.Node{}, false},
	} {
		got, ok := Find(l, x.path)
		if ok != x.ok || !samples.SameNodes([]api.Node{got}, []api.Node{x.want}) {
			t.Errorf("Find(%#x) = %v, %v, want %v", x.path, got, ok, x.want)
		}
	}
	for _, path := range [][]int{nil, {}, {4}, {0}} {
		if got, ok := Find(nil, path); ok || got.Tag != 0 || got.Value != nil || got.Kids != nil {
			t.Errorf("Find(nothing, %v) = %v, %v", path, got, ok)
		}
	}
}

func TestFindWhatIsNestedDeeply(t *testing.T) {
	const levels = 1 << 16 // the most that R10 allows
	l := []api.Node{tower(levels, leaf(4, 1, 2))}
	path := make([]int, levels)
	for i := range path {
		path[i] = 0x30
	}
	if n, ok := Find(l, path[:1]); !ok || n.Tag != 0x30 {
		t.Error(n.Tag, ok)
	}
	path[levels-1] = 4
	if n, ok := Find(l, path); !ok || !bytes.Equal(n.Value, []byte{1, 2}) {
		t.Error(n, ok)
	}
}

func TestEndlessObjects(t *testing.T) {
	l := many(300)
	for i := range l {
		l[i] = api.Node{Tag: 0x30, Kids: l}
	}
	// Such objects are beyond R10; the calls have to come back all the same.
	if n, ok := Find(l, []int{0x30, 0x30}); ok || n.Tag != 0 || n.Kids != nil {
		t.Error("an endless object was found")
	}
	if b, e := Encode(l); b != nil || e != api.ErrDepth {
		t.Error(b, e)
	}
}

// P2.5: Canonical

func TestCanonical(t *testing.T) {
	for _, x := range []struct{ in, want string }{
		{"", ""},
		{"30 03 02 01 05", "30 03 02 01 05"},
		{"30 81 03 02 01 05", "30 03 02 01 05"},
		{"30 80 02 01 05 00 00", "30 03 02 01 05"},
		{"30 84 00 00 00 05 02 82 00 01 05", "30 03 02 01 05"},
		{"30 80 30 80 00 00 31 80 04 81 00 00 00 00 00 04 00", "30 06 30 00 31 02 04 00 04 00"},
		{"7f 4e 80 5f 1f 81 01 09 00 00", "7f 4e 04 5f 1f 01 09"},
	} {
		if b, e := Canonical(samples.Unhex(x.in)); e != api.OK || !bytes.Equal(b, samples.Unhex(x.want)) {
			t.Errorf("Canonical(%s) = %x, %d, want %s", x.in, b, e, x.want)
		}
	}
	// The content of 200 bytes loses its own length in the long form and gets another one.
	in := append(samples.Unhex("30 82 00 cc 04 82 00 c8"), samples.Bytes(200)...)
	want := append(samples.Unhex("30 81 cb 04 81 c8"), samples.Bytes(200)...)
	if b, e := Canonical(in); e != api.OK || !bytes.Equal(b, want) {
		t.Errorf("Canonical = %x, %d", b, e)
	}
}

func TestCanonicalReturnsTheErrorsOfParse(t *testing.T) {
	for _, x := range []struct {
		in   string
		want api.Errno
	}{
		{"30", api.ErrTruncated}, {"00 00", api.ErrTag}, {"02 80", api.ErrLength}, {"30 85", api.ErrLength},
		{"30 80 00", api.ErrTruncated}, {"04 02 01", api.ErrTruncated}, {"04 00 1f 80", api.ErrTag},
		{strings.Repeat("30 80 ", 9), api.ErrDepth}, {strings.Repeat("04 00 ", 257), api.ErrSize},
		{strings.Repeat("00 ", 4097), api.ErrSize},
	} {
		if b, e := Canonical(samples.Unhex(x.in)); e != x.want || b != nil {
			t.Errorf("Canonical(%s) = %x, %d, want %d", x.in, b, e, x.want)
		}
	}
}

func TestCanonicalIsEncodeOfParse(t *testing.T) {
	texts(critical, 5, func(b []byte) {
		l, want := Parse(b, false)
		var out []byte
		if want == api.OK {
			out, want = Encode(l)
		}
		if c, e := Canonical(b); e != want || !bytes.Equal(c, out) {
			t.Fatalf("Canonical(%x) = %x, %d, want %x, %d", b, c, e, out, want)
		}
	})
}

// The consequences

func TestParseOfEncode(t *testing.T) {
	r := rand.New(rand.NewSource(2))
	read := 0
	for range 3000 {
		l := forest(r, 1)
		b, e := Encode(l)
		if e == api.ErrSize {
			continue
		}
		read++
		for _, strict := range []bool{true, false} {
			if got, f := Parse(b, strict); e != api.OK || f != api.OK || !samples.SameNodes(got, l) {
				t.Fatalf("Parse(Encode(%v), %v) = %v, %d, %d", l, strict, got, e, f)
			}
		}
	}
	if read < 1000 {
		t.Errorf("only %d lists were encoded", read)
	}
}

func TestEncodeOfParse(t *testing.T) {
	read := 0
	texts(critical, 6, func(b []byte) {
		l, e := Parse(b, true)
		if e != api.OK {
			return
		}
		read++
		if c, f := Encode(l); f != api.OK || !bytes.Equal(c, b) {
			t.Fatalf("Encode(Parse(%x)) = %x, %d", b, c, f)
		}
		if m, f := Parse(b, false); f != api.OK || !samples.SameNodes(l, m) {
			t.Fatalf("%x is %v if read strictly, and %v, %d otherwise", b, l, m, f)
		}
	})
	if read < 100 {
		t.Errorf("only %d encodings were read", read)
	}
}

func TestCanonicalOfCanonical(t *testing.T) {
	check := func(b []byte) {
		c, e := Canonical(b)
		if e != api.OK {
			return
		}
		if d, f := Canonical(c); f != api.OK || !bytes.Equal(c, d) {
			t.Fatalf("Canonical(%x) = %x, and of this %x, %d", b, c, d, f)
		}
		if _, f := Parse(c, true); f != api.OK {
			t.Fatalf("Canonical(%x) = %x is not strict", b, c)
		}
	}
	texts(critical, 6, check)
	r := rand.New(rand.NewSource(3))
	for range 2000 {
		l := forest(r, 1)
		b := samples.Loose(r.Intn, l)
		check(b)
		got, e := Parse(b, false)
		if len(b) <= api.MaxBytes && (e != api.OK || !samples.SameNodes(got, l)) {
			t.Fatalf("Parse(%x) = %v, %d, want %v", b, got, e, l)
		}
	}
}

// R2: arguments are not modified, and results share no memory with them or with each other.

func TestArgumentsAreNotModified(t *testing.T) {
	r := rand.New(rand.NewSource(4))
	for range 200 {
		l := forest(r, 1)
		// The memory behind an argument belongs to somebody else, though its capacity covers it.
		whole := append(samples.Loose(r.Intn, l), samples.Bytes(9)...)
		before := bytes.Clone(whole)
		b := whole[:len(whole)-9]
		kept := samples.CopyNodes(l)
		path := []int{0x30, 4}
		if len(l) > 0 {
			path[0] = l[0].Tag
		}
		first := path[0]
		Encode(l)
		Parse(b, false)
		Parse(b, true)
		Size(b)
		Canonical(b)
		Find(l, path)
		Find(l, path[:1])
		if !samples.SameNodes(l, kept) || !bytes.Equal(whole, before) || path[0] != first || path[1] != 4 {
			t.Fatalf("an argument was modified: %v", kept)
		}
	}
}

func TestEncodedBytesShareNoMemory(t *testing.T) {
	l := []api.Node{leaf(4, 1, 2, 3), branch(0x30, leaf(5, 4, 5))}
	kept := samples.CopyNodes(l)
	b, _ := Encode(l)
	want := bytes.Clone(b)
	b = b[:cap(b)]
	for i := range b {
		b[i] ^= 0xff
	}
	if !samples.SameNodes(l, kept) {
		t.Error("the result of Encode shares memory with its argument")
	}
	in := bytes.Clone(want)
	c, _ := Canonical(in)
	for i := range c {
		c[i] ^= 0xff
	}
	if !bytes.Equal(in, want) {
		t.Error("the result of Canonical shares memory with its argument")
	}
	if again, _ := Encode(l); !bytes.Equal(again, want) {
		t.Errorf("a second call returns %x", again)
	}
}

func TestParsedObjectsShareNoMemory(t *testing.T) {
	for _, s := range []string{
		"04 02 01 02 04 02 03 04 30 08 04 02 05 06 04 02 07 08",
		"30 80 04 02 01 02 30 80 04 01 03 00 00 04 01 04 00 00 04 01 05",
	} {
		b := samples.Unhex(s)
		want, _ := Parse(b, false)
		want = samples.CopyNodes(want)
		got, _ := Parse(b, false)
		last := len(got) - 1
		for i := range last {
			samples.ScribbleNodes(got[i : i+1 : i+1])
			if !samples.SameNodes(got[i+1:], want[i+1:]) {
				t.Errorf("%s: the object %d shares memory with another one", s, i)
			}
		}
		if kids := got[last].Kids; len(kids) > 1 {
			samples.ScribbleNodes(kids[:1:1])
			if !samples.SameNodes(kids[1:], want[last].Kids[1:]) {
				t.Errorf("%s: Kids share memory", s)
			}
		}
		samples.ScribbleNodes(got)
		if !bytes.Equal(b, samples.Unhex(s)) {
			t.Errorf("%s: the objects share memory with the argument", s)
		}
		if again, _ := Parse(b, false); !samples.SameNodes(again, want) {
			t.Errorf("%s: a second call returns %v", s, again)
		}
	}
}

func TestFoundObjectsShareNoMemory(t *testing.T) {
	shared := []byte{1, 2, 3}
	kids := []api.Node{{Tag: 4, Value: shared}, {Tag: 4, Value: shared}}
	l := []api.Node{branch(0x31, api.Node{Tag: 0x30, Kids: kids}, api.Node{Tag: 0x30, Kids: kids})}
	kept := samples.CopyNodes(l)
	for _, path := range [][]int{{0x31}, {0x31, 0x30}, {0x31, 0x30, 4}} {
		n, ok := Find(l, path)
		if !ok {
			t.Fatal(path)
		}
		samples.ScribbleNodes([]api.Node{n})
		if !samples.SameNodes(l, kept) {
			t.Fatalf("the object at %#x shares memory with the argument", path)
		}
	}
	n, _ := Find(l, []int{0x31})
	samples.ScribbleNodes(n.Kids[0].Kids[:1:1])
	if !samples.SameNodes(n.Kids[0].Kids[1:], kept[0].Kids[0].Kids[1:]) || !samples.SameNodes(n.Kids[1:], kept[0].Kids[1:]) {
		t.Error("parts of an object that was found share memory")
	}
}
