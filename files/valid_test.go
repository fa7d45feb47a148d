package files

import (
	"math/rand"
	"slices"
	"strconv"
	"testing"

	"traveldoc/api"
	"traveldoc/samples"
)

// P17.1

// expect compares Valid with a value that the test knows, and with the definitions.
func expect(t *testing.T, name string, f api.Files, want api.Errno) {
	t.Helper()
	if e := Valid(f); e != want || defined(f) != want {
		t.Errorf("%s: %d, expected %d, the definitions say %d", name, e, want, defined(f))
	}
}

// everywhere calls what with each of the places that files have: it puts files there.
func everywhere(what func(where string, put func(l []api.File) api.Files)) {
	what("root", func(l []api.File) api.Files { return with(passport(), func(f *api.Files) { f.Root = l }) })
	for i := range 3 {
		what("application "+strconv.Itoa(i), func(l []api.File) api.Files {
			return with(passport(), func(f *api.Files) { f.Apps[i].Files = l })
		})
	}
	what("root only", func(l []api.File) api.Files { return api.Files{Root: l} })
	what("application only", func(l []api.File) api.Files {
		return api.Files{Apps: []api.App{{Name: []byte("a"), Files: l}}}
	})
}

func TestValidOfNumbersOfFiles(t *testing.T) {
	expect(t, "passport", passport(), api.OK)
	expect(t, "nothing", api.Files{}, api.OK)
	expect(t, "empty", api.Files{Root: []api.File{}, Apps: []api.App{}}, api.OK)
	everywhere(func(where string, put func(l []api.File) api.Files) {
		for n := range 30 {
			want := api.OK
			if n > 24 {
				want = api.ErrSize
			}
			expect(t, where, put(filesOf(n)), want)
		}
		expect(t, where, put(make([]api.File, 1000)), api.ErrSize)
		expect(t, where, put([]api.File{}), api.OK)
	})
	full := api.Files{Root: filesOf(24), Apps: []api.App{appOf("a", 24), appOf("b", 24), appOf("c", 24), appOf("d", 24)}}
	expect(t, "as many as there may be", full, api.OK)
}

func TestValidOfNumbersOfApplications(t *testing.T) {
	for n := range 10 {
		f := api.Files{Root: filesOf(2)}
		for i := range n {
			f.Apps = append(f.Apps, appOf("name"+strconv.Itoa(i), i))
		}
		want := api.OK
		if n > 4 {
			want = api.ErrSize
		}
		expect(t, "applications", f, want)
	}
	expect(t, "empty applications", api.Files{Apps: make([]api.App, 5)}, api.ErrSize)
	expect(t, "an empty application", api.Files{Apps: make([]api.App, 1)}, api.ErrSize)
}

func TestValidOfFiles(t *testing.T) {
	everywhere(func(where string, put func(l []api.File) api.Files) {
		one := func(name string, x api.File, want api.Errno) {
			t.Helper()
			for _, l := range [][]api.File{{x}, append(filesOf(3), x), append([]api.File{x}, filesOf(3)...)} {
				expect(t, where+", "+name, put(l), want)
			}
		}
		for id, want := range map[int]api.Errno{
			-1 << 63: api.ErrRange, -65536: api.ErrRange, -1: api.ErrRange, 0: api.ErrRange, 4: api.OK, 255: api.OK, 256: api.OK,
			32768: api.OK, 65534: api.OK, 65535: api.OK, 65536: api.ErrRange, 65537: api.ErrRange, 1 << 32: api.ErrRange, 1<<63 - 1: api.ErrRange,
		} {
			one("an identifier", api.File{ID: id}, want)
		}
		expect(t, where+", the identifier 1", put([]api.File{{ID: 1}}), api.OK)
		for short, want := range map[int]api.Errno{
			-1 << 63: api.ErrRange, -30: api.ErrRange, -1: api.ErrRange, 0: api.OK, 1: api.OK, 15: api.OK, 29: api.OK,
			30: api.OK, 31: api.ErrRange, 32: api.ErrRange, 256: api.ErrRange, 1 << 32: api.ErrRange, 1<<63 - 1: api.ErrRange,
		} {
			one("a short identifier", api.File{ID: 9, Short: short}, want)
		}
		for size, want := range map[int]api.Errno{0: api.OK, 1: api.OK, 4095: api.OK, 4096: api.OK, 4097: api.ErrSize, 5000: api.ErrSize, 1 << 16: api.ErrSize} {
			one("a content", api.File{ID: 9, Content: samples.Bytes(size)}, want)
		}
		one("a content that is not nil", api.File{ID: 9, Content: []byte{}}, api.OK)
	})
}

func TestValidOfConditions(t *testing.T) {
	numbers := []int{-1 << 63, -16, 16, 17, 32, 63, 64, 65, 1 << 32, 1<<63 - 1}
	for n := -3; n <= 16; n++ {
		numbers = append(numbers, n)
	}
	everywhere(func(where string, put func(l []api.File) api.Files) {
		for _, level := range numbers {
			for _, right := range numbers {
				want := api.ErrRange
				if level == 3 && right >= 0 && right < 16 || right == 0 && (level == 0 || level == 1 || level == 2 || level == 4) {
					want = api.OK
				}
				x := fileOf(7)
				x.Read = api.Access{Level: level, Right: right}
				expect(t, where, put([]api.File{fileOf(5), x}), want)
			}
		}
	})
}

func TestValidOfNames(t *testing.T) {
	for size := range 40 {
		want := api.ErrSize
		if size >= 1 && size <= 16 {
			want = api.OK
		}
		for i := range 4 {
			f := with(passport(), func(f *api.Files) { f.Apps = append(f.Apps, appOf("last", 1)) })
			f.Apps[i].Name = samples.Bytes(size)
			expect(t, "a size of a name", f, want)
		}
	}
	expect(t, "a long name", api.Files{Apps: []api.App{{Name: make([]byte, 1<<16)}}}, api.ErrSize)
	expect(t, "a name without bytes", api.Files{Apps: []api.App{{Name: []byte{}}}}, api.ErrSize)
	names := func(l ...string) api.Files {
		f := passport()
		f.Apps = nil
		for _, name := range l {
			f.Apps = append(f.Apps, appOf(name, 2))
		}
		return f
	}
	for _, x := range []struct {
		names []string
		want  api.Errno
	}{
		{[]string{"a", "b", "c", "d"}, api.OK},
		{[]string{"a", "A"}, api.OK},
		{[]string{"a", "aa"}, api.OK},
		{[]string{"aa", "a"}, api.OK},
		{[]string{"a", "a\x00"}, api.OK},
		{[]string{"\x00", "\x00\x00", "\xff", "\x01"}, api.OK},
		{[]string{"0123456789abcdef", "0123456789abcdeF"}, api.OK},
		{[]string{"0123456789abcdef", "1123456789abcdef"}, api.OK},
		{[]string{"a", "a"}, api.ErrDuplicate},
		{[]string{"a", "b", "a"}, api.ErrDuplicate},
		{[]string{"a", "b", "c", "a"}, api.ErrDuplicate},
		{[]string{"a", "b", "b"}, api.ErrDuplicate},
		{[]string{"a", "b", "c", "c"}, api.ErrDuplicate},
		{[]string{"0123456789abcdef", "0123456789abcdef"}, api.ErrDuplicate},
		{[]string{"\x00", "\x00"}, api.ErrDuplicate},
		{[]string{"", ""}, api.ErrSize},
		{[]string{"a", "a", ""}, api.ErrDuplicate},
		{[]string{"a", "", "a"}, api.ErrSize},
		{[]string{"a", "0123456789abcdefg", "a"}, api.ErrSize},
	} {
		expect(t, "names", names(x.names...), x.want)
	}
}

func TestValidOfEqualNumbers(t *testing.T) {
	// Shorts and IDs of files at one place.
	everywhere(func(where string, put func(l []api.File) api.Files) {
		for _, x := range []struct {
			name string
			ids  []int
			want api.Errno
		}{
			{"different identifiers", []int{1, 2, 3, 4}, api.OK},
			{"in no order", []int{4, 1, 65535, 3, 2}, api.OK},
			{"twice the same", []int{1, 1}, api.ErrDuplicate},
			{"the same at the end", []int{1, 2, 3, 4, 4}, api.ErrDuplicate},
			{"the first one once more", []int{1, 2, 3, 4, 1}, api.ErrDuplicate},
			{"the greatest twice", []int{65535, 65535}, api.ErrDuplicate},
			{"the same low byte", []int{1, 257}, api.OK},
			{"the same high byte", []int{256, 257}, api.OK},
		} {
			var l []api.File
			for _, id := range x.ids {
				l = append(l, api.File{ID: id})
			}
			expect(t, where+", "+x.name, put(l), x.want)
		}
		for _, x := range []struct {
			name   string
			shorts []int
			want   api.Errno
		}{
			{"different short identifiers", []int{1, 2, 3, 30}, api.OK},
			{"none", []int{0, 0, 0}, api.OK},
			{"none in between", []int{0, 1, 0, 2, 0}, api.OK},
			{"twice the same", []int{1, 1}, api.ErrDuplicate},
			{"the same behind none", []int{5, 0, 0, 5}, api.ErrDuplicate},
			{"the greatest twice", []int{30, 1, 30}, api.ErrDuplicate},
			{"the last two", []int{0, 1, 2, 2}, api.ErrDuplicate},
		} {
			var l []api.File
			for i, short := range x.shorts {
				l = append(l, api.File{ID: 10 + i, Short: short})
			}
			expect(t, where+", "+x.name, put(l), x.want)
		}
		// An ID is compared with IDs only.
		expect(t, where, put([]api.File{{ID: 1, Short: 2}, {ID: 2, Short: 1}, {ID: 3, Short: 3}}), api.OK)
		// Equal contents and conditions are no matter.
		expect(t, where, put([]api.File{{ID: 1, Content: []byte{1}}, {ID: 2, Content: []byte{1}}}), api.OK)
	})
	same := []api.File{{ID: 7, Short: 7}, {ID: 8, Short: 8}}
	expect(t, "the same numbers at all places", api.Files{Root: same, Apps: []api.App{
		{Name: []byte("a"), Files: same}, {Name: []byte("b"), Files: same}, {Name: []byte("c"), Files: same}, {Name: []byte("d"), Files: same},
	}}, api.OK)
}

// a defect is a change that makes a file, behind a file with the ID 1 and the Short 1, one that is not valid.
type defect struct {
	name   string
	change func(x *api.File)
	e      api.Errno
}

func defectsOfFile() []defect {
	return []defect{
		{"ID", func(x *api.File) { x.ID = 65536 }, api.ErrRange},
		{"Short", func(x *api.File) { x.Short = 31 }, api.ErrRange},
		{"Level", func(x *api.File) { x.Read.Level = 5 }, api.ErrRange},
		{"Right", func(x *api.File) { x.Read.Right = 16 }, api.ErrRange},
		{"Content", func(x *api.File) { x.Content = make([]byte, 4097) }, api.ErrSize},
		{"same ID", func(x *api.File) { x.ID = 1 }, api.ErrDuplicate},
		{"same Short", func(x *api.File) { x.Short = 1 }, api.ErrDuplicate},
	}
}

// firstError returns the error of a set of defects that comes first: they stand in the order of their errors.
func firstError(l []defect) api.Errno {
	if len(l) == 0 {
		return api.OK
	}
	return l[0].e
}

// subset returns those whose bits are set.
func subset[T any](l []T, set int) []T {
	var out []T
	for i, x := range l {
		if set>>i&1 == 1 {
			out = append(out, x)
		}
	}
	return out
}

func TestValidOrderWithinAFile(t *testing.T) {
	all := defectsOfFile()
	for set := range 1 << len(all) {
		chosen := subset(all, set)
		// Where a number is both out of its range and equal to another, the last change decides: none is then left of the first one.
		x := fileOf(9)
		for _, d := range chosen {
			d.change(&x)
		}
		left := slices.DeleteFunc(slices.Clone(chosen), func(d defect) bool {
			return d.name == "ID" && x.ID == 1 || d.name == "Short" && x.Short == 1
		})
		everywhere(func(where string, put func(l []api.File) api.Files) {
			expect(t, where, put([]api.File{{ID: 1, Short: 1}, x}), firstError(left))
			expect(t, where, put([]api.File{{ID: 1, Short: 1}, fileOf(2), x, fileOf(3)}), firstError(left))
		})
	}
}

func TestValidOrderBetweenFiles(t *testing.T) {
	// Of two files with defects the first one decides, and each of them is behind the number of the files.
	all := defectsOfFile()
	for _, first := range all {
		for _, second := range all {
			x, y := fileOf(8), fileOf(9)
			first.change(&x)
			second.change(&y)
			everywhere(func(where string, put func(l []api.File) api.Files) {
				name := where + ", " + first.name + " ahead of " + second.name
				expect(t, name, put([]api.File{{ID: 1, Short: 1}, x, y}), first.e)
				expect(t, name, put([]api.File{{ID: 1, Short: 1}, fileOf(2), x, fileOf(3), y, fileOf(4)}), first.e)
				full := append([]api.File{{ID: 1, Short: 1}, x, y}, filesOf(25)[3:]...)
				expect(t, name, put(full[:24]), first.e)
				expect(t, name+", and too many", put(full), api.ErrSize)
			})
		}
	}
	// A file that equals an earlier one with a defect is behind that one.
	twice := func(change func(x *api.File)) []api.File {
		x := fileOf(8)
		change(&x)
		return []api.File{x, x}
	}
	for _, d := range all[:5] {
		everywhere(func(where string, put func(l []api.File) api.Files) {
			expect(t, where+", twice "+d.name, put(twice(d.change)), d.e)
		})
	}
	// The file behind one that is the same decides, not the one ahead of it.
	everywhere(func(where string, put func(l []api.File) api.Files) {
		wrong := api.File{ID: 2, Short: 31}
		expect(t, where, put([]api.File{{ID: 1}, {ID: 1}, wrong}), api.ErrDuplicate)
		expect(t, where, put([]api.File{{ID: 1}, wrong, {ID: 1}}), api.ErrRange)
		expect(t, where, put([]api.File{{ID: 1, Short: 3}, wrong, {ID: 4, Short: 3}}), api.ErrRange)
	})
}

// A part of files that is looked at on its own, with the changes that it may get, in the order of their errors.
type part struct {
	name   string
	change func(f *api.Files)
	e      api.Errno
}

// parts are defects in the order in which they are found.
func parts() []part {
	l := []part{{"applications", func(f *api.Files) {
		for len(f.Apps) < 5 {
			f.Apps = append(f.Apps, appOf("more", 0))
		}
	}, api.ErrSize}}
	files := func(name string, of func(f *api.Files) *[]api.File) {
		l = append(l,
			part{name + ", number", func(f *api.Files) { *of(f) = append(*of(f), filesOf(30)[4:]...) }, api.ErrSize},
			part{name + ", range", func(f *api.Files) { (*of(f))[0].Read.Level = -1 }, api.ErrRange},
			part{name + ", content", func(f *api.Files) { (*of(f))[1].Content = make([]byte, 4097) }, api.ErrSize},
			part{name + ", the same", func(f *api.Files) { (*of(f))[2].ID = 1 }, api.ErrDuplicate},
		)
	}
	files("root", func(f *api.Files) *[]api.File { return &f.Root })
	for i := range 2 {
		text := "application " + strconv.Itoa(i)
		l = append(l, part{text + ", size of the name", func(f *api.Files) { f.Apps[i+1].Name = make([]byte, 17) }, api.ErrSize})
		if i == 1 {
			l = append(l, part{text + ", the same name", func(f *api.Files) { f.Apps[2].Name = []byte("b") }, api.ErrDuplicate})
		}
		files(text, func(f *api.Files) *[]api.File { return &f.Apps[i+1].Files })
	}
	return l
}

// All pairs of defects, and many sets of them.
func TestValidOrderBetweenPlaces(t *testing.T) {
	base := api.Files{Root: filesOf(4), Apps: []api.App{appOf("a", 4), appOf("b", 4), appOf("c", 4)}}
	all := parts()
	// The changes are made from the last one on, so that one of those ahead is not taken back.
	apply := func(l []part) api.Files {
		return with(base, func(f *api.Files) {
			for _, p := range slices.Backward(l) {
				p.change(f)
			}
		})
	}
	expect(t, "no defect", base, api.OK)
	for i, first := range all {
		expect(t, first.name, apply(all[i:i+1]), first.e)
		for _, second := range all[i+1:] {
			expect(t, first.name+" ahead of "+second.name, apply([]part{first, second}), first.e)
		}
	}
	r := rand.New(rand.NewSource(3))
	for range 3000 {
		chosen := subset(all, r.Intn(1<<len(all))&r.Intn(1<<len(all)))
		if len(chosen) > 0 {
			expect(t, chosen[0].name, apply(chosen), chosen[0].e)
		}
	}
}

func TestValidOfRandomFiles(t *testing.T) {
	r := rand.New(rand.NewSource(1))
	seen := map[api.Errno]int{}
	for range 20000 {
		f := random(r)
		want := defined(f)
		if e := Valid(f); e != want {
			t.Fatalf("%s: %d, expected %d", textOf(f), e, want)
		}
		seen[want]++
	}
	for _, e := range []api.Errno{api.OK, api.ErrSize, api.ErrRange, api.ErrDuplicate} {
		if seen[e] < 500 {
			t.Errorf("the error %d occurs %d times", e, seen[e])
		}
	}
}
