package files

import (
	"math/rand"
	"slices"
	"testing"

	"traveldoc/api"
	"traveldoc/samples"
)

// P17.2

// invalid are files with a defect each, of all kinds and at all places.
func invalid() []api.Files {
	change := func(what func(f *api.Files)) api.Files { return with(passport(), what) }
	return []api.Files{
		change(func(f *api.Files) { f.Apps = append(f.Apps, appOf("d", 1), appOf("e", 1)) }),
		change(func(f *api.Files) { f.Root = append(f.Root, filesOf(30)[3:]...) }),
		change(func(f *api.Files) { f.Root[0].ID = 0 }),
		change(func(f *api.Files) { f.Root[2].Short = 31 }),
		change(func(f *api.Files) { f.Root[1].Content = make([]byte, 4097) }),
		change(func(f *api.Files) { f.Root[1].ID = f.Root[0].ID }),
		change(func(f *api.Files) { f.Apps[0].Name = nil }),
		change(func(f *api.Files) { f.Apps[2].Name = make([]byte, 17) }),
		change(func(f *api.Files) { f.Apps[2].Name = []byte{0} }),
		change(func(f *api.Files) { f.Apps[1].Files = filesOf(25) }),
		change(func(f *api.Files) { f.Apps[2].Files[1].Read.Level = 5 }),
		change(func(f *api.Files) { f.Apps[2].Files[1].Read.Right = 1 }),
		change(func(f *api.Files) { f.Apps[0].Files[6].Short = 3 }),
	}
}

// several are files that are valid, those with nothing and with all that there may be among them.
func several() []api.Files {
	return []api.Files{
		{},
		{Root: filesOf(1)},
		{Apps: []api.App{{Name: []byte("a")}}},
		passport(),
		{Root: filesOf(24), Apps: []api.App{appOf("a", 24), appOf("b", 0), appOf("c", 24), appOf("d", 1)}},
	}
}

func expectPlace(t *testing.T, name string, p api.Place, e api.Errno, want api.Place, wantError api.Errno) {
	t.Helper()
	if p != want || e != wantError {
		t.Errorf("%s: %v and %d, expected %v and %d", name, p, e, want, wantError)
	}
}

func TestName(t *testing.T) {
	for _, x := range []struct {
		name string
		want int
	}{
		{"\xa0\x00\x00\x02\x47\x10\x01", 0},
		{"\x00", 1},
		{"0123456789abcdef", 2},
		{"", -1},
		{"\xa0\x00\x00\x02\x47\x10", -1},
		{"\xa0\x00\x00\x02\x47\x10\x01\x00", -1},
		{"\xa0\x00\x00\x02\x47\x10\x02", -1},
		{"\xa1\x00\x00\x02\x47\x10\x01", -1},
		{"\x00\x00", -1},
		{"\x01", -1},
		{"0", -1},
		{"0123456789abcdefg", -1},
		{"0123456789ABCDEF", -1},
		{string(make([]byte, 100000)), -1},
	} {
		want, wantError := api.Place{App: x.want, File: -1}, api.OK
		if x.want < 0 {
			want, wantError = api.Place{}, api.ErrMissing
		}
		p, e := Name(passport(), []byte(x.name))
		expectPlace(t, "a name", p, e, want, wantError)
	}
	p, e := Name(passport(), nil)
	expectPlace(t, "nil", p, e, api.Place{}, api.ErrMissing)
	p, e = Name(api.Files{}, []byte("a"))
	expectPlace(t, "no applications", p, e, api.Place{}, api.ErrMissing)
	p, e = Name(api.Files{Root: filesOf(3)}, nil)
	expectPlace(t, "no applications and no name", p, e, api.Place{}, api.ErrMissing)
	for i, name := range []string{"a", "b", "c", "d"} {
		p, e = Name(several()[4], []byte(name))
		expectPlace(t, name, p, e, api.Place{App: i, File: -1}, api.OK)
	}
}

func TestNameInFilesThatAreNotValid(t *testing.T) {
	for _, f := range invalid() {
		for _, name := range []string{"", "\x00", "\xa0\x00\x00\x02\x47\x10\x01", "e", "nothing", string(make([]byte, 17))} {
			p, e := Name(f, []byte(name))
			expectPlace(t, textOf(f), p, e, api.Place{}, api.ErrInvalid)
		}
	}
}

func TestIDAndShort(t *testing.T) {
	at := func(app, file int) api.Place { return api.Place{App: app, File: file} }
	for _, x := range []struct {
		name  string
		p     api.Place
		id    int
		short int
		want  api.Place
		e     api.Errno
	}{
		{"root", at(-1, -1), 0x11c, 28, at(-1, 0), api.OK},
		{"another file of the root", at(-1, 2), 0x11c, 28, at(-1, 0), api.OK},
		{"the same file of the root", at(-1, 0), 0x11c, 28, at(-1, 0), api.OK},
		{"application", at(0, -1), 0x101, 1, at(0, 0), api.OK},
		{"another file of the application", at(0, 6), 0x103, 3, at(0, 2), api.OK},
		{"the last application", at(2, -1), 65535, 28, at(2, 0), api.OK},
		{"the last file of the last application", at(2, 0), 1, 1, at(2, 1), api.OK},
		{"the greatest short identifier", at(0, 0), 0x104, 30, at(0, 4), api.OK},
		{"only in the application", at(-1, -1), 0x102, 2, api.Place{}, api.ErrMissing},
		{"only in the root", at(0, -1), 0x11d, 28, api.Place{}, api.ErrMissing},
		{"only in another application", at(0, -1), 65535, 28, api.Place{}, api.ErrMissing},
		{"an application without files", at(1, -1), 0x101, 1, api.Place{}, api.ErrMissing},
		{"nowhere", at(0, 3), 0x777, 29, api.Place{}, api.ErrMissing},
		{"numbers of 0", at(0, 3), 0, 0, api.Place{}, api.ErrMissing},
		{"numbers of 0, in the root", at(-1, 1), 0, 0, api.Place{}, api.ErrMissing},
		{"numbers below 0", at(-1, -1), -1, -1, api.Place{}, api.ErrMissing},
		{"numbers that are too great", at(2, -1), 65536, 31, api.Place{}, api.ErrMissing},
		{"numbers with the same low bytes", at(2, -1), 65536 + 65535, 256 + 28, api.Place{}, api.ErrMissing},
		{"no such application", at(3, -1), 1, 1, api.Place{}, api.ErrInvalid},
		{"an application below the root", at(-2, -1), 0x11c, 28, api.Place{}, api.ErrInvalid},
		{"no such file of the root", at(-1, 3), 0x11c, 28, api.Place{}, api.ErrInvalid},
		{"a file of another application", at(2, 2), 1, 1, api.Place{}, api.ErrInvalid},
		{"a file where there is none", at(1, 0), 1, 1, api.Place{}, api.ErrInvalid},
		{"a file below none", at(0, -2), 0x101, 1, api.Place{}, api.ErrInvalid},
		{"no such place and no such file", at(3, 9), 0, 0, api.Place{}, api.ErrInvalid},
	} {
		p, e := ID(passport(), x.p, x.id)
		expectPlace(t, x.name+", ID", p, e, x.want, x.e)
		p, e = Short(passport(), x.p, x.short)
		expectPlace(t, x.name+", Short", p, e, x.want, x.e)
	}
	// A file without a short identifier is found by its identifier only.
	p, e := ID(passport(), at(-1, -1), 0x11d)
	expectPlace(t, "ID", p, e, at(-1, 1), api.OK)
	p, e = Short(passport(), at(-1, -1), 0x1d)
	expectPlace(t, "Short", p, e, api.Place{}, api.ErrMissing)
}

// All places around, with all numbers that occur and those beside them.
func TestIDAndShortAtAllPlaces(t *testing.T) {
	for _, f := range append(several(), invalid()...) {
		numbers := []int{-1 << 63, -1, 0, 1, 2, 3, 24, 25, 31, 65535, 65536, 1<<63 - 1}
		for _, p := range places(passport()) {
			if x := definedFile(passport(), p); x != nil {
				numbers = append(numbers, x.ID-1, x.ID, x.ID+1, x.Short, x.Short+1)
			}
		}
		slices.Sort(numbers)
		for _, p := range around(f) {
			for _, n := range slices.Compact(numbers) {
				got, e := ID(f, p, n)
				want, wantError := definedPlace(f, p, idOf, n)
				expectPlace(t, "ID", got, e, want, wantError)
				got, e = Short(f, p, n)
				want, wantError = definedPlace(f, p, shortOf, n)
				expectPlace(t, "Short", got, e, want, wantError)
			}
			if t.Failed() {
				t.Fatal(textOf(f), p)
			}
		}
	}
}

func TestPlacesOfRandomFiles(t *testing.T) {
	r := rand.New(rand.NewSource(4))
	seen := map[api.Errno]int{}
	for range 20000 {
		f := random(r)
		l := around(f)
		p, n := l[r.Intn(len(l))], r.Intn(7)
		got, e := ID(f, p, n)
		want, wantError := definedPlace(f, p, idOf, n)
		expectPlace(t, "ID", got, e, want, wantError)
		seen[e]++
		got, e = Short(f, p, n)
		want, wantError = definedPlace(f, p, shortOf, n)
		expectPlace(t, "Short", got, e, want, wantError)
		seen[e]++
		name := samples.Bytes(r.Intn(5))
		got, e = Name(f, name)
		want, wantError = definedName(f, string(name))
		expectPlace(t, "Name", got, e, want, wantError)
		if seen[e]++; t.Failed() {
			t.Fatal(textOf(f), p, n, name)
		}
	}
	for _, e := range []api.Errno{api.OK, api.ErrInvalid, api.ErrMissing} {
		if seen[e] < 2000 {
			t.Errorf("the error %d occurs %d times", e, seen[e])
		}
	}
}

func definedName(f api.Files, name string) (api.Place, api.Errno) {
	if defined(f) != api.OK {
		return api.Place{}, api.ErrInvalid
	}
	for _, p := range places(f) {
		if p.App >= 0 && string(f.Apps[p.App].Name) == name {
			return p, api.OK
		}
	}
	return api.Place{}, api.ErrMissing
}

// P17.3, the condition of a file

func TestAccess(t *testing.T) {
	for _, x := range []struct {
		p    api.Place
		want api.Access
		e    api.Errno
	}{
		{api.Place{App: -1, File: 0}, api.Access{}, api.OK},
		{api.Place{App: -1, File: 2}, api.Access{Level: api.LevelNever}, api.OK},
		{api.Place{App: 0, File: 0}, api.Access{Level: api.LevelPassword}, api.OK},
		{api.Place{App: 0, File: 1}, api.Access{Level: api.LevelChip}, api.OK},
		{api.Place{App: 0, File: 2}, api.Access{Level: api.LevelTerminal, Right: 3}, api.OK},
		{api.Place{App: 0, File: 4}, api.Access{Level: api.LevelTerminal}, api.OK},
		{api.Place{App: 0, File: 5}, api.Access{Level: api.LevelTerminal, Right: 15}, api.OK},
		{api.Place{App: 0, File: 6}, api.Access{Level: api.LevelNever}, api.OK},
		{api.Place{App: 2, File: 1}, api.Access{}, api.OK},
		{api.Place{App: -1, File: -1}, api.Access{}, api.ErrMissing},
		{api.Place{App: 0, File: -1}, api.Access{}, api.ErrMissing},
		{api.Place{App: 1, File: -1}, api.Access{}, api.ErrMissing},
		{api.Place{App: 0, File: 7}, api.Access{}, api.ErrInvalid},
		{api.Place{App: 1, File: 0}, api.Access{}, api.ErrInvalid},
		{api.Place{App: 3, File: -1}, api.Access{}, api.ErrInvalid},
		{api.Place{App: -2, File: 0}, api.Access{}, api.ErrInvalid},
		{api.Place{App: 0, File: -2}, api.Access{}, api.ErrInvalid},
	} {
		if a, e := Access(passport(), x.p); a != x.want || e != x.e {
			t.Errorf("%v: %v and %d", x.p, a, e)
		}
	}
}

func TestAccessAtAllPlaces(t *testing.T) {
	for _, f := range append(several(), invalid()...) {
		for _, p := range around(f) {
			want, wantError := api.Access{}, api.OK
			switch {
			case defined(f) != api.OK, !slices.Contains(places(f), p):
				wantError = api.ErrInvalid
			case p.File == -1:
				wantError = api.ErrMissing
			default:
				want = definedFile(f, p).Read
			}
			if a, e := Access(f, p); a != want || e != wantError {
				t.Errorf("%s, %v: %v and %d, expected %v and %d", textOf(f), p, a, e, want, wantError)
			}
		}
	}
}
