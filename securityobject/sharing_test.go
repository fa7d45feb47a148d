package securityobject

import (
	"bytes"
	"slices"
	"testing"

	"traveldoc/api"
	"traveldoc/group"
	"traveldoc/samples"
	"traveldoc/sign"
)

// R2

// roomy returns a copy whose slices have room behind them that is not empty.
func roomy(s api.Security) api.Security {
	s = copyOf(s)
	for i := range s.Hashes {
		s.Hashes[i].Hash = samples.Roomy(s.Hashes[i].Hash)
	}
	s.Hashes = append(s.Hashes, hashOf(15), hashOf(16))[:len(s.Hashes)]
	s.Certificate = samples.Roomy(s.Certificate)
	return s
}

// whole returns a security object up to the capacities of its slices.
func whole(s api.Security) api.Security {
	s.Hashes = slices.Clone(s.Hashes[:cap(s.Hashes)])
	for i := range s.Hashes {
		s.Hashes[i].Hash = bytes.Clone(s.Hashes[i].Hash[:cap(s.Hashes[i].Hash)])
	}
	s.Certificate = bytes.Clone(s.Certificate[:cap(s.Certificate)])
	return s
}

// scribbleHashes overwrites hashes up to the capacities of their slices.
func scribbleHashes(l []api.GroupHash) {
	for i := range l {
		samples.Scribble(l[i].Hash)
	}
	l = l[:cap(l)]
	for i := range l {
		l[i] = api.GroupHash{Group: -9}
	}
}

func scribble(s api.Security) {
	scribbleHashes(s.Hashes)
	samples.Scribble(s.Certificate)
}

// roomyFiles returns copies of files with room behind them.
func roomyFiles(files [][]byte) [][]byte {
	var l [][]byte
	for _, b := range files {
		l = append(l, samples.Roomy(b))
	}
	return append(l, samples.Bytes(3))[:len(l)]
}

// textOfFiles writes files as text, up to the capacities of their slices.
func textOfFiles(files [][]byte) string {
	text := ""
	for _, b := range files[:cap(files)] {
		text += textOf(b[:cap(b)]) + " "
	}
	return text
}

// given are the arguments of the functions that take security objects.
func given() []api.Security {
	l := []api.Security{securityOf(2, 5, 9), full()}
	for _, d := range append(defectsOfSigned(), defectsOfOthers()...) {
		l = append(l, with(securityOf(2, 5, 9), d.make))
	}
	return append(l, securityOf(9, 5, 2), securityOf(5, 5))
}

// What was given stays as it was, with the room behind it, also where there is an error.
func TestArgumentsStay(t *testing.T) {
	files := filesOf(16, 9, 5, 2)
	for _, s := range given() {
		s = roomy(s)
		before := whole(s)
		now := roomyFiles(files)
		textBefore := textOfFiles(now)
		Valid(s)
		Message(s)
		Encode(s)
		Differ(s, now)
		if !same(whole(s), before) {
			t.Errorf("%x was %x", whole(s), before)
		}
		if textOfFiles(now) != textBefore {
			t.Errorf("the files %x were %s", now, textBefore)
		}
		b := samples.Roomy(bytesOf(securityOf(2, 5, 9)))
		bytesBefore := bytes.Clone(b[:cap(b)])
		if Decode(b); !bytes.Equal(b[:cap(b)], bytesBefore) {
			t.Errorf("%x was %x", b[:cap(b)], bytesBefore)
		}
	}
	for _, files := range [][][]byte{filesOf(16, 9, 5, 2), filesOf(3, 2, 1, 2), filesOf(5, 18, 4), {{0x70, 0}, {4}, {0x61, 0}}} {
		for _, size := range []int{0, 5, 1025} {
			now, certificate := roomyFiles(files), samples.Roomy(samples.Bytes(size))
			textBefore, certificateBefore := textOfFiles(now), bytes.Clone(certificate[:cap(certificate)])
			Hashes(now)
			Make(1, certificate, now)
			Make(0, certificate, now)
			if textOfFiles(now) != textBefore || !bytes.Equal(certificate[:cap(certificate)], certificateBefore) {
				t.Errorf("the files %x were %s, or the certificate %x was %x", now, textBefore, certificate, certificateBefore)
			}
		}
	}
}

func TestResultsOfMessageAndEncodeShareNothing(t *testing.T) {
	for _, f := range []func(s api.Security) ([]byte, api.Errno){Message, Encode} {
		for _, s := range several() {
			s = roomy(s)
			before := whole(s)
			first, e := f(s)
			second, _ := f(s)
			want := bytes.Clone(second)
			if e != api.OK {
				t.Fatal(e)
			}
			samples.Scribble(first)
			if !same(whole(s), before) || !bytes.Equal(second, want) {
				t.Errorf("%x shares memory with what was given, or with another result", want)
			}
			scribble(s)
			if !bytes.Equal(second, want) {
				t.Errorf("%x shares memory with what was given", want)
			}
		}
	}
}

// expectAlone tells that no two slices of a result share memory, and none with what was given or with another result. It scribbles over all of them.
func expectAlone(t *testing.T, first, second api.Security, given ...[]byte) {
	t.Helper()
	want, wantGiven := copyOf(second), slices.Concat(given...)
	for i := range first.Hashes {
		rest := copyOf(api.Security{Hashes: first.Hashes[i+1:], Certificate: first.Certificate})
		samples.Scribble(first.Hashes[i].Hash)
		if !same(api.Security{Hashes: first.Hashes[i+1:], Certificate: first.Certificate}, rest) {
			t.Errorf("two slices of a result share memory: %x", first)
		}
	}
	samples.Scribble(first.Certificate)
	scribbleHashes(first.Hashes)
	if !bytes.Equal(slices.Concat(given...), wantGiven) {
		t.Error("a result shares memory with what was given")
	}
	if !same(second, want) {
		t.Error("two results share memory")
	}
	for _, b := range given {
		samples.Scribble(b)
	}
	if !same(second, want) {
		t.Error("a result shares memory with what was given")
	}
}

func TestResultsOfDecodeShareNothing(t *testing.T) {
	for _, s := range several() {
		b := bytesOf(s)
		first, e := Decode(b)
		second, f := Decode(b)
		if e != api.OK || f != api.OK {
			t.Fatal(e, f)
		}
		expectAlone(t, first, second, b)
	}
}

func TestResultsOfHashesAndMakeShareNothing(t *testing.T) {
	for _, groups := range [][]int{{1}, {16, 2, 5}, upTo(16)} {
		files := filesOf(groups...)
		first, e := Hashes(files)
		second, f := Hashes(files)
		if e != api.OK || f != api.OK {
			t.Fatal(e, f)
		}
		expectAlone(t, api.Security{Hashes: first}, api.Security{Hashes: second}, files...)
		files, certificate := filesOf(groups...), samples.Bytes(9)
		one, e := Make(1, certificate, files)
		two, f := Make(1, certificate, files)
		if e != api.OK || f != api.OK {
			t.Fatal(e, f)
		}
		expectAlone(t, one, two, append(files, certificate)...)
	}
}

func TestResultsOfDifferShareNothing(t *testing.T) {
	s, files := securityOf(2, 5, 9), filesOf(9, 4, 2, 1)
	first, e := Differ(s, files)
	second, f := Differ(s, files)
	want := []int{1, 2, 4, 9}
	if e != api.OK || f != api.OK || !slices.Equal(first, want) {
		t.Fatal(first, e, f)
	}
	clear(first[:cap(first)])
	scribble(s)
	if !slices.Equal(second, want) {
		t.Error("a result shares memory with another one, or with what was given")
	}
}

// R6: what a function returns depends on its arguments only, whatever was called before.
func TestResultsAreThoseOfTheArguments(t *testing.T) {
	files := filesOf(3, 1)
	first, e := Make(12345, samples.Bytes(5), files)
	if e != api.OK {
		t.Fatal(e)
	}
	for k := range 50 {
		Make(k, samples.Bytes(k), filesOf(upTo(k%19)...))
		Differ(first, filesOf(k%16+1))
		Decode(bytesOf(securityOf(k % 20)))
		if s, e := Make(12345, samples.Bytes(5), files); e != api.OK || !same(s, first) {
			t.Fatalf("%x is now %x: %d", first, s, e)
		}
	}
}

// The consequences, for one document from its files to its inspection.
func TestConsequences(t *testing.T) {
	const k = 987654321
	public, e := group.Public(k)
	if e != api.OK {
		t.Fatal(e)
	}
	for _, groups := range [][]int{{1}, {1, 2, 14}, {16, 14, 2, 1}, upTo(16)} {
		files := filesOf(groups...)
		s, e := Make(k, samples.Bytes(100), files)
		if e != api.OK {
			t.Fatal(e)
		}
		b, e := Encode(s)
		if e != api.OK {
			t.Fatal(e)
		}
		read, e := Decode(b)
		if e != api.OK || !same(read, s) {
			t.Errorf("%x came back as %x: %d", s, read, e)
		}
		message, e := Message(read)
		if e != api.OK || !sign.Verify(public, message, read.Signature) {
			t.Errorf("the signature of %x is wrong: %d", read, e)
		}
		if l, e := Differ(read, files); e != api.OK || len(l) != 0 {
			t.Errorf("%x differs from its files in %v: %d", read, l, e)
		}
	}
}

// The examples at the chapter's end.
func TestExamples(t *testing.T) {
	if s, e := Make(1, []byte{1}, nil); e != api.ErrSize || !same(s, api.Security{}) {
		t.Errorf("%x and %d", s, e)
	}
	if l, e := Differ(makeOf(t, filesOf(1, 2, 14)), filesOf(3)); e != api.OK || !slices.Equal(l, []int{3}) {
		t.Errorf("%v and %d", l, e)
	}
	for number := 1; number <= 16; number++ {
		if b, e := Message(makeOf(t, filesOf(number))); e != api.OK || len(b) != 46 {
			t.Errorf("%x and %d", b, e)
		}
	}
}
