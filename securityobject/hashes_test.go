package securityobject

import (
	"math"
	"math/rand"
	"slices"
	"strings"
	"testing"

	"traveldoc/api"
	"traveldoc/group"
	"traveldoc/samples"
	"traveldoc/sign"
	"traveldoc/tlv"
)

// P16.3 and P16.4

// tags are those of the groups from 1 to 18.
const tags = "61 75 63 76 65 66 67 68 69 6a 6b 6c 6d 6e 6f 70 60 77"

// groupFile returns a file of a group, with this content as text.
func groupFile(number int, content string) []byte {
	return samples.Unhex(strings.Fields(tags)[number-1] + samples.Object(4, content)[2:])
}

// fileWith returns a file of a group that differs from those of others, and from those with other bytes.
func fileWith(number int, value byte) []byte {
	return groupFile(number, samples.Object(4, samples.Digits(int(value), 1)))
}

// filesOf returns files of these groups.
func filesOf(groups ...int) [][]byte {
	var l [][]byte
	for _, number := range groups {
		l = append(l, fileWith(number, 1))
	}
	return l
}

// expectHashes compares what Hashes returns with what the chapter says, and with an error.
func expectHashes(t *testing.T, name string, files [][]byte, want api.Errno) {
	t.Helper()
	wantedHashes, wanted := definedHashes(files)
	if wanted != want {
		t.Errorf("%s: the definitions say %d, not %d", name, wanted, want)
	}
	if l, e := Hashes(files); e != wanted || !sameHashes(l, wantedHashes) {
		t.Errorf("%s, %x: %x and %d, not %x and %d", name, files, l, e, wantedHashes, wanted)
	}
}

// making is a call of Make: its arguments, with bytes as text, its result, and the file of this.
type making struct {
	k           int
	certificate string
	files       []string
	file        string
	want        api.Security
}

// made are security objects that another language has made of files.
func made() []making {
	hash := func(group int, text string) api.GroupHash {
		return api.GroupHash{Group: group, Hash: samples.Unhex(text)}
	}
	const (
		one      = "38bb1ef2719b605c1b6af7e6f75fc2fe876dfcff6d63830f7a93ce8fac7313fd"
		two      = "0199707edb6e99e3d874ff272404e05713276212ae8d17d7306b27863e55e926"
		three    = "ec49f17f2c205644d3a0d242eb5a82ec222ed01fbd8fd6b55d0f2f6ef651e484"
		fourteen = "36b054754d655ad56dc94c0694c7ca04f218e22a8e54e798690db6965825c729"
		sixteen  = "ed0f9eb3ace684850f5a386b1ed49ebf717496c11939610d5fce3a2065ddec56"
	)
	return []making{
		{
			12345, "aa", []string{"61 03 040141"},
			"77 3f 30 3d 042e 302c 020101 3027 3025 020101 0420" + one + "0401 aa 0408 139c3636 0f46aa14",
			api.Security{Version: 1, Hashes: []api.GroupHash{hash(1, one)}, Certificate: samples.Unhex("aa"), Signature: api.Signature{E: 329004598, S: 256289300}},
		},
		{
			1, "010203", []string{"61 03 040141", "63 00", "70 02 0400"},
			"77 8190 30 818d 047c 307a 020101 3075 3025 020101 0420" + one + "3025 020103 0420" + three + "3025 020110 0420" + sixteen + "0403 010203 0408 0a598d02 348188c8",
			api.Security{
				Version: 1, Hashes: []api.GroupHash{hash(1, one), hash(3, three), hash(16, sixteen)},
				Certificate: samples.Unhex("010203"), Signature: api.Signature{E: 173640962, S: 880904392},
			},
		},
		{
			order - 1, "00", []string{"70 02 0400"},
			"77 3f 30 3d 042e 302c 020101 3027 3025 020110 0420" + sixteen + "0401 00 0408 2cb2d41f 1c62ab6a",
			api.Security{Version: 1, Hashes: []api.GroupHash{hash(16, sixteen)}, Certificate: samples.Unhex("00"), Signature: api.Signature{E: 749917215, S: 476228458}},
		},
		{
			// The files have another order than the groups, and one has a length of a longer form.
			12345, "aa", []string{"6e 8100", "75 00"},
			"77 66 30 64 0455 3053 020101 304e 3025 020102 0420" + two + "3025 02010e 0420" + fourteen + "0401 aa 0408 394ee173 0f828c45",
			api.Security{Version: 1, Hashes: []api.GroupHash{hash(2, two), hash(14, fourteen)}, Certificate: samples.Unhex("aa"), Signature: api.Signature{E: 961470835, S: 260213829}},
		},
	}
}

func TestHashesAndMakeAsBytes(t *testing.T) {
	for _, x := range made() {
		var files [][]byte
		for _, text := range x.files {
			files = append(files, samples.Unhex(text))
		}
		if l, e := Hashes(files); e != api.OK || !sameHashes(l, x.want.Hashes) {
			t.Errorf("%x: %x and %d", files, l, e)
		}
		if s, e := Make(x.k, samples.Unhex(x.certificate), files); e != api.OK || !same(s, x.want) {
			t.Errorf("%x: %x and %d", files, s, e)
		}
	}
}

func TestHashes(t *testing.T) {
	for _, files := range [][][]byte{nil, {}} {
		if l, e := Hashes(files); e != api.OK || len(l) != 0 {
			t.Errorf("no files: %x and %d", l, e)
		}
	}
	for number := 1; number <= 16; number++ {
		expectHashes(t, "one file", filesOf(number), api.OK)
		expectHashes(t, "a file without objects", [][]byte{groupFile(number, "")}, api.OK)
		expectHashes(t, "a long file", [][]byte{groupFile(number, samples.Object(4, strings.Repeat("ab", 4000)))}, api.OK)
		expectHashes(t, "a number of files", filesOf(upTo(number)...), api.OK)
	}
	files := filesOf(upTo(16)...)
	if l, e := Hashes(files); e != api.OK || len(l) != 16 {
		t.Errorf("%x and %d", l, e)
	}
	slices.Reverse(files)
	expectHashes(t, "descending", files, api.OK)
	expectHashes(t, "a few", filesOf(16, 1, 15, 2), api.OK)
	// All orders of four files.
	orderings(filesOf(2, 3, 14, 16), 0, func(files [][]byte) { expectHashes(t, "an order", files, api.OK) })
	r := rand.New(rand.NewSource(6))
	for range 500 {
		r.Shuffle(len(files), func(i, j int) { files[i], files[j] = files[j], files[i] })
		expectHashes(t, "an order", files[:r.Intn(17)], api.OK)
	}
}

// orderings calls f with all orders of files from an index on.
func orderings(files [][]byte, from int, f func(files [][]byte)) {
	if from == len(files) {
		f(files)
		return
	}
	for i := from; i < len(files); i++ {
		files[from], files[i] = files[i], files[from]
		orderings(files, from+1, f)
		files[from], files[i] = files[i], files[from]
	}
}

// The hash is that of the bytes of the file, not of what they mean.
func TestHashesOfOtherFormsOfLengths(t *testing.T) {
	r := rand.New(rand.NewSource(7))
	seen := map[string]bool{}
	for range 100 {
		l, e := tlv.Parse(groupFile(5, "3003020105 040107"), true)
		if e != api.OK {
			t.Fatal(e)
		}
		b := samples.Loose(r.Intn, l)
		expectHashes(t, "other lengths", [][]byte{b}, api.OK)
		hashes, _ := Hashes([][]byte{b})
		seen[textOf(hashes[0].Hash)] = true
	}
	if len(seen) < 50 {
		t.Errorf("%d hashes only", len(seen))
	}
}

// badFiles are files that have no hash, with their error.
func badFiles() map[string]api.Errno {
	return map[string]api.Errno{
		"": api.ErrForm, "6100 6200": api.ErrForm, "6100 6100": api.ErrForm, "0400 0400": api.ErrForm,
		"61": api.ErrTruncated, "6101": api.ErrTruncated, "6180 00": api.ErrTruncated, "6102 0401": api.ErrTruncated,
		"00": api.ErrTag, "0400": api.ErrTag, "6200": api.ErrTag, "3000": api.ErrTag, "7100": api.ErrTag, "7f6100": api.ErrTag, "6102 0000": api.ErrTag,
		"6185 0000000000": api.ErrLength, "6102 0480": api.ErrLength, "61ff": api.ErrLength,
		strings.Repeat("6180", 9): api.ErrDepth, strings.Repeat("00", 4097): api.ErrSize, samples.Object(0x61, strings.Repeat("0400", 256)): api.ErrSize,
		// The list of groups and the security object are signed by nobody.
		"6000": api.ErrRange, "7700": api.ErrRange, "6080 0000": api.ErrRange, "7702 0400": api.ErrRange,
	}
}

func TestHashesOfFilesThatAreRefused(t *testing.T) {
	for text, want := range badFiles() {
		bad := samples.Unhex(text)
		expectHashes(t, "alone", [][]byte{bad}, want)
		for at := range 4 {
			expectHashes(t, "among others", slices.Insert(filesOf(1, 2, 16), at, bad), want)
		}
		expectHashes(t, "behind all", append(filesOf(upTo(16)...), bad), want)
		// The first one of them decides.
		for other, first := range badFiles() {
			expectHashes(t, "behind another one", append(filesOf(7), samples.Unhex(other), bad), first)
		}
		expectHashes(t, "ahead of one that is there twice", append([][]byte{bad}, filesOf(3, 3)...), want)
		expectHashes(t, "between two of one group", append(filesOf(3), bad, fileWith(3, 1)), want)
		expectHashes(t, "behind two of one group", append(filesOf(3, 3), bad), api.ErrDuplicate)
	}
	expectHashes(t, "nil", [][]byte{nil}, api.ErrForm)
	// Of the groups 17 and 18, there is no duplicate.
	expectHashes(t, "twice the list of groups", filesOf(17, 17), api.ErrRange)
	expectHashes(t, "twice the security object", filesOf(18, 18), api.ErrRange)
	expectHashes(t, "the list of groups behind all", filesOf(append(upTo(16), 17)...), api.ErrRange)
	expectHashes(t, "all groups", filesOf(upTo(18)...), api.ErrRange)
}

func TestHashesOfGroupsThatAreThereTwice(t *testing.T) {
	for first := 1; first <= 16; first++ {
		for second := 1; second <= 16; second++ {
			want := api.OK
			if first == second {
				want = api.ErrDuplicate
			}
			expectHashes(t, "two", filesOf(first, second), want)
			// The contents do not matter.
			expectHashes(t, "two", [][]byte{fileWith(first, 1), fileWith(second, 2)}, want)
			expectHashes(t, "two", [][]byte{groupFile(first, ""), groupFile(second, "0400")}, want)
			if first != second {
				expectHashes(t, "between", filesOf(first, second, first), api.ErrDuplicate)
				expectHashes(t, "at the end", filesOf(first, second, second), api.ErrDuplicate)
			}
		}
		expectHashes(t, "behind all", filesOf(append(upTo(16), first)...), api.ErrDuplicate)
		expectHashes(t, "many", filesOf(slices.Repeat([]int{first}, 5000)...), api.ErrDuplicate)
	}
}

// expectMake compares what Make returns with what the chapter says, and with an error.
func expectMake(t *testing.T, name string, k int, certificate []byte, files [][]byte, want api.Errno) {
	t.Helper()
	wantedObject, wanted := definedMake(k, certificate, files)
	if wanted != want {
		t.Errorf("%s: the definitions say %d, not %d", name, wanted, want)
	}
	s, e := Make(k, certificate, files)
	if e != wanted || !same(s, wantedObject) {
		t.Errorf("%s, %d, %x, %x: %x and %d, not %x and %d", name, k, certificate, files, s, e, wantedObject, wanted)
	}
	if e == api.OK && Valid(s) != api.OK {
		t.Errorf("%s: %x is not valid", name, s)
	}
}

func TestMake(t *testing.T) {
	for _, k := range []int{1, 2, 12345, order - 1} {
		for _, files := range [][][]byte{filesOf(1), filesOf(16), filesOf(14, 2, 1), filesOf(upTo(16)...)} {
			for _, size := range []int{1, 2, 100, 1023, 1024} {
				expectMake(t, "ordinary", k, samples.Bytes(size), files, api.OK)
			}
			for _, size := range []int{0, 1025, 1026, 4096, 70000} {
				expectMake(t, "another size", k, samples.Bytes(size), files, api.ErrSize)
			}
			expectMake(t, "no certificate", k, nil, files, api.ErrSize)
		}
		expectMake(t, "no files", k, samples.Bytes(5), nil, api.ErrSize)
		expectMake(t, "no files", k, samples.Bytes(5), [][]byte{}, api.ErrSize)
		expectMake(t, "nothing", k, nil, nil, api.ErrSize)
	}
}

func TestMakeOrderOfErrors(t *testing.T) {
	noSecrets := append([]int{0, order, order + 1, 1 << 30, math.MaxInt32}, far...)
	for _, k := range noSecrets {
		expectMake(t, "no secret", k, samples.Bytes(5), filesOf(1, 2), api.ErrRange)
		expectMake(t, "no secret, no files", k, samples.Bytes(5), nil, api.ErrSize)
		expectMake(t, "no secret, no certificate", k, nil, filesOf(1), api.ErrSize)
		expectMake(t, "no secret, a long certificate", k, samples.Bytes(1025), filesOf(1), api.ErrSize)
	}
	for text, want := range badFiles() {
		for _, k := range []int{0, 1, order} {
			for _, size := range []int{0, 1, 1025} {
				expectMake(t, "a file", k, samples.Bytes(size), [][]byte{samples.Unhex(text)}, want)
				expectMake(t, "a file behind another one", k, samples.Bytes(size), append(filesOf(4), samples.Unhex(text)), want)
			}
		}
	}
	expectMake(t, "a file twice", 0, nil, filesOf(2, 2), api.ErrDuplicate)
}

// The signature of Make is that of the message, and depends on nothing else.
func TestSignatureOfMake(t *testing.T) {
	for _, k := range []int{1, 7, 12345, order - 1} {
		public, e := group.Public(k)
		if e != api.OK {
			t.Fatal(e)
		}
		for _, files := range [][][]byte{filesOf(1), filesOf(9, 2, 16), filesOf(upTo(16)...)} {
			s, e := Make(k, samples.Bytes(7), files)
			if e != api.OK {
				t.Fatal(e)
			}
			message, e := Message(s)
			if e != api.OK || !sign.Verify(public, message, s.Signature) {
				t.Errorf("the signature of %x is wrong: %d", s, e)
			}
			// Not the file is what the signature is for.
			file, e := Encode(s)
			if e != api.OK || sign.Verify(public, file, s.Signature) {
				t.Errorf("the signature of %x is that of the file: %d", s, e)
			}
			other, e := Make(k, samples.Bytes(8), files)
			if e != api.OK || other.Signature != s.Signature {
				t.Errorf("the signature of %x depends on the certificate: %d", s, e)
			}
			changed := slices.Clone(files)
			number, _ := Hashes(files[:1])
			changed[0] = fileWith(number[0].Group, 2)
			other, e = Make(k, samples.Bytes(7), changed)
			if message, f := Message(other); e != api.OK || f != api.OK || sign.Verify(public, message, s.Signature) {
				t.Errorf("the signature of %x is that of other files: %d and %d", s, e, f)
			}
		}
	}
}

// P16.4

// expectDiffer compares what Differ returns with what the chapter says, and with groups.
func expectDiffer(t *testing.T, name string, s api.Security, files [][]byte, groups []int, want api.Errno) {
	t.Helper()
	definedGroups, defined := definedDiffer(s, files)
	if defined != want || !slices.Equal(definedGroups, groups) {
		t.Errorf("%s: the definitions say %v and %d, not %v and %d", name, definedGroups, defined, groups, want)
	}
	if l, e := Differ(s, files); e != want || !slices.Equal(l, groups) {
		t.Errorf("%s, %x, %x: %v and %d, not %v and %d", name, s, files, l, e, groups, want)
	}
}

func makeOf(t *testing.T, files [][]byte) api.Security {
	t.Helper()
	s, e := Make(12345, samples.Bytes(5), files)
	if e != api.OK {
		t.Fatal(e)
	}
	return s
}

// All sets of files that are changed, that are new, and that are not there.
func TestDiffer(t *testing.T) {
	const asItWas, changed, fresh, absent, neither = 0, 1, 2, 3, 4
	for state := range 5 * 5 * 5 * 5 {
		var signed, now [][]byte
		var want []int
		rest := state
		for _, number := range []int{1, 3, 15, 16} {
			switch rest % 5 {
			case asItWas:
				signed, now = append(signed, fileWith(number, 1)), append(now, fileWith(number, 1))
			case changed:
				signed, now = append(signed, fileWith(number, 1)), append(now, fileWith(number, 2))
				want = append(want, number)
			case fresh:
				now = append(now, fileWith(number, 1))
				want = append(want, number)
			case absent:
				signed = append(signed, fileWith(number, 1))
			case neither:
			}
			rest /= 5
		}
		if len(signed) == 0 {
			signed = filesOf(8)
		}
		s := makeOf(t, signed)
		orderings(now, 0, func(now [][]byte) { expectDiffer(t, "a set", s, now, want, api.OK) })
	}
}

func TestDifferOfMakeAndTheSameFiles(t *testing.T) {
	r := rand.New(rand.NewSource(8))
	for range 300 {
		var files [][]byte
		for _, i := range r.Perm(16)[:1+r.Intn(16)] {
			files = append(files, groupFile(i+1, samples.Object(4, textOf(randomBytes(r, r.Intn(50))))))
		}
		s := makeOf(t, files)
		expectDiffer(t, "the same files", s, files, nil, api.OK)
		r.Shuffle(len(files), func(i, j int) { files[i], files[j] = files[j], files[i] })
		expectDiffer(t, "in another order", s, files, nil, api.OK)
		expectDiffer(t, "some of them", s, files[r.Intn(len(files)):], nil, api.OK)
		expectDiffer(t, "no files", s, nil, nil, api.OK)
	}
	all := filesOf(upTo(16)...)
	expectDiffer(t, "all files", makeOf(t, all), all, nil, api.OK)
	expectDiffer(t, "all but one are new", makeOf(t, all[4:5]), all, []int{1, 2, 3, 4, 6, 7, 8, 9, 10, 11, 12, 13, 14, 15, 16}, api.OK)
	slices.Reverse(all)
	expectDiffer(t, "all but one are new, descending", makeOf(t, all[:1]), all, upTo(15), api.OK)
}

// A file with the same objects, but other bytes, is another file.
func TestDifferOfOtherFormsOfLengths(t *testing.T) {
	for _, text := range []string{"61 81 02 0400", "61 80 0400 0000", "61 03 048100", "61 03 040100", "61 00", "61 02 0500"} {
		expectDiffer(t, "other bytes", makeOf(t, [][]byte{samples.Unhex("61 02 0400")}), [][]byte{samples.Unhex(text)}, []int{1}, api.OK)
	}
}

// A hash that differs in any one bit, or that is the one of another group, is another one.
func TestDifferOfOtherHashes(t *testing.T) {
	files := filesOf(2, 3)
	s := makeOf(t, files)
	for at := range 2 {
		for i := range 32 {
			for bit := range 8 {
				other := with(s, func(s *api.Security) { s.Hashes[at].Hash[i] ^= 1 << bit })
				expectDiffer(t, "a bit", other, files, []int{2 + at}, api.OK)
			}
		}
	}
	exchanged := with(s, func(s *api.Security) { s.Hashes[0].Hash, s.Hashes[1].Hash = s.Hashes[1].Hash, s.Hashes[0].Hash })
	expectDiffer(t, "exchanged", exchanged, files, []int{2, 3}, api.OK)
	moved := with(s, func(s *api.Security) { s.Hashes[1].Group = 4 })
	expectDiffer(t, "of another group", moved, files, []int{3}, api.OK)
}

// Differ does not ask who signed, and what.
func TestDifferOfOtherSignatures(t *testing.T) {
	files := filesOf(1, 2)
	s := makeOf(t, files)
	s.Version, s.Certificate, s.Signature = 0, []byte{0}, api.Signature{}
	expectDiffer(t, "another signature", s, files, nil, api.OK)
}

func TestDifferErrors(t *testing.T) {
	files := filesOf(2, 5, 9)
	s := makeOf(t, files)
	for text, want := range badFiles() {
		bad := samples.Unhex(text)
		expectDiffer(t, "a file", s, [][]byte{bad}, nil, want)
		expectDiffer(t, "a file behind others", s, append(filesOf(1, 2), bad), nil, want)
		for _, d := range append(defectsOfSigned(), defectsOfOthers()...) {
			expectDiffer(t, d.name+", and a file", with(s, d.make), [][]byte{bad}, nil, d.want)
		}
	}
	for _, d := range append(defectsOfSigned(), defectsOfOthers()...) {
		for _, now := range [][][]byte{nil, files, filesOf(1), filesOf(3, 3), filesOf(17)} {
			expectDiffer(t, d.name, with(s, d.make), now, nil, d.want)
		}
	}
	expectDiffer(t, "a file twice", s, filesOf(2, 2), nil, api.ErrDuplicate)
	expectDiffer(t, "a changed file twice", s, [][]byte{fileWith(2, 9), fileWith(2, 8)}, nil, api.ErrDuplicate)
	expectDiffer(t, "the list of groups", s, filesOf(2, 17), nil, api.ErrRange)
	expectDiffer(t, "the zero value", api.Security{}, files, nil, api.ErrSize)
}
