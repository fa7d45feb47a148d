package files

import (
	"bytes"
	"math/rand"
	"slices"
	"strconv"
	"strings"

	"traveldoc/api"
	"traveldoc/samples"
)

// The definitions of the chapter once more, written in another way, and the files that the tests use.

// defined returns the first error of files: it looks for all errors, in the order in which they come, and takes the first one.
func defined(f api.Files) api.Errno {
	var found []api.Errno
	note := func(applies bool, e api.Errno) {
		if applies {
			found = append(found, e)
		}
	}
	note(len(f.Apps) >= 5, api.ErrSize)
	noteFiles := func(l []api.File) {
		note(len(l) >= 25, api.ErrSize)
		ids, shorts := map[int]bool{}, map[int]bool{}
		for _, x := range l {
			note(x.ID != int(uint16(x.ID)) || x.ID == 0, api.ErrRange)
			note(x.Short>>5 != 0 || x.Short == 31, api.ErrRange)
			note(!conditions[x.Read], api.ErrRange)
			note(len(x.Content) >= 4097, api.ErrSize)
			note(ids[x.ID] || shorts[x.Short], api.ErrDuplicate)
			ids[x.ID], shorts[x.Short] = true, x.Short != 0
		}
	}
	noteFiles(f.Root)
	names := map[string]bool{}
	for _, a := range f.Apps {
		note(len(a.Name) == 0 || len(a.Name) >= 17, api.ErrSize)
		note(names[string(a.Name)], api.ErrDuplicate)
		names[string(a.Name)] = true
		noteFiles(a.Files)
	}
	return append(found, api.OK)[0]
}

// conditions are the conditions that a file may have.
var conditions = func() map[api.Access]bool {
	l := map[api.Access]bool{{Level: 0}: true, {Level: 1}: true, {Level: 2}: true, {Level: 4}: true}
	for right := range 16 {
		l[api.Access{Level: 3, Right: right}] = true
	}
	return l
}()

// places are the places that are valid for files.
func places(f api.Files) []api.Place {
	l := []api.Place{{App: -1, File: -1}}
	for i := range f.Root {
		l = append(l, api.Place{App: -1, File: i})
	}
	for i, a := range f.Apps {
		l = append(l, api.Place{App: i, File: -1})
		for k := range a.Files {
			l = append(l, api.Place{App: i, File: k})
		}
	}
	return l
}

// around are places of files, valid and not: those whose indices are at most two away from one that is.
func around(f api.Files) []api.Place {
	most := len(f.Root)
	for _, a := range f.Apps {
		most = max(most, len(a.Files))
	}
	var l []api.Place
	for app := -3; app <= len(f.Apps)+1; app++ {
		for file := -3; file <= most+1; file++ {
			l = append(l, api.Place{App: app, File: file})
		}
	}
	for _, far := range []int{-1 << 63, -1 << 32, 1<<32 - 1, 1 << 32, 1<<63 - 1} {
		l = append(l, api.Place{App: far, File: -1}, api.Place{App: -1, File: far}, api.Place{App: far, File: far}, api.Place{App: 0, File: far})
	}
	return l
}

// definedFile returns the file of a place that is valid, nil if none is selected.
func definedFile(f api.Files, p api.Place) *api.File {
	l := f.Root
	if p.App >= 0 {
		l = f.Apps[p.App].Files
	}
	if p.File < 0 {
		return nil
	}
	return &l[p.File]
}

// definedPlace returns the place that ID or Short select: of those with the same application, the one whose file has the number.
func definedPlace(f api.Files, p api.Place, numberOf func(x api.File) int, n int) (api.Place, api.Errno) {
	if defined(f) != api.OK || !slices.Contains(places(f), p) {
		return api.Place{}, api.ErrInvalid
	}
	for _, q := range places(f) {
		if x := definedFile(f, q); q.App == p.App && x != nil && numberOf(*x) == n {
			return q, api.OK
		}
	}
	return api.Place{}, api.ErrMissing
}

func idOf(x api.File) int { return x.ID }

// shortOf returns a number that nobody looks for where there is no short identifier.
func shortOf(x api.File) int {
	if x.Short == 0 {
		return -1 << 40
	}
	return x.Short
}

// allowed says which conditions a state meets: the level that it reaches, and the rights bit by bit.
func allowed(a api.Access, s api.State) bool {
	reached := api.LevelFree
	if slices.Contains([]int{1, 2, 3}, s.Password) {
		reached = api.LevelPassword
	}
	if reached == api.LevelPassword && s.Chip {
		reached = api.LevelChip
	}
	if reached == api.LevelChip && s.Terminal {
		reached = api.LevelTerminal
	}
	switch {
	case a.Level < 0, a.Level > 3, a.Level > reached:
		return false
	case a.Level < 3:
		return true
	}
	rights := s.Rights
	for right := range 16 {
		// Numbers below 0 have the bits that they have in memory.
		if odd := rights%2 != 0; right == a.Right {
			return odd
		}
		rights = (rights - rights&1) / 2
	}
	return false
}

// definedRead says what Read returns.
func definedRead(f api.Files, p api.Place, s api.State, offset, n int) ([]byte, bool, api.Errno) {
	if defined(f) != api.OK || !slices.Contains(places(f), p) {
		return nil, false, api.ErrInvalid
	}
	x := definedFile(f, p)
	switch {
	case x == nil:
		return nil, false, api.ErrMissing
	case !allowed(x.Read, s):
		return nil, false, api.ErrAccess
	case n <= 0, n >= 4097, offset <= -1, offset >= len(x.Content)+1:
		return nil, false, api.ErrRange
	}
	var data []byte
	for i := offset; i < len(x.Content) && i-offset < n; i++ {
		data = append(data, x.Content[i])
	}
	return data, offset+len(data) == len(x.Content), api.OK
}

// fileOf returns a file with an identifier, which everybody reads.
func fileOf(id int) api.File { return api.File{ID: id, Content: samples.Bytes(id % 50)} }

// filesOf returns files with the identifiers 1 to n.
func filesOf(n int) []api.File {
	var l []api.File
	for i := range n {
		l = append(l, fileOf(i+1))
	}
	return l
}

// appOf returns an application with files with the identifiers 1 to n.
func appOf(name string, n int) api.App { return api.App{Name: []byte(name), Files: filesOf(n)} }

// passport returns the files of a chip, with a file of each level in the application with the index 0. That with the index 1 has no files.
func passport() api.Files {
	return api.Files{
		Root: []api.File{
			{ID: 0x11c, Short: 28, Content: samples.Bytes(20)},
			{ID: 0x11d, Content: samples.Bytes(3)},
			{ID: 0x101, Content: samples.Bytes(5), Read: api.Access{Level: api.LevelNever}},
		},
		Apps: []api.App{
			{Name: samples.Unhex("a0000002471001"), Files: []api.File{
				{ID: 0x101, Short: 1, Content: samples.Bytes(90), Read: api.Access{Level: api.LevelPassword}},
				{ID: 0x102, Short: 2, Content: samples.Bytes(4096), Read: api.Access{Level: api.LevelChip}},
				{ID: 0x103, Short: 3, Content: samples.Bytes(300), Read: api.Access{Level: api.LevelTerminal, Right: 3}},
				{ID: 0x11c, Content: nil},
				{ID: 0x104, Short: 30, Content: samples.Bytes(7), Read: api.Access{Level: api.LevelTerminal}},
				{ID: 0x105, Content: samples.Bytes(1), Read: api.Access{Level: api.LevelTerminal, Right: 15}},
				{ID: 0x1ff, Content: samples.Bytes(2), Read: api.Access{Level: api.LevelNever}},
			}},
			{Name: []byte{0}},
			{Name: []byte("0123456789abcdef"), Files: []api.File{{ID: 65535, Short: 28, Content: samples.Bytes(10)}, {ID: 1, Short: 1}}},
		},
	}
}

func copyOfFiles(l []api.File) []api.File {
	out := slices.Clone(l)
	for i := range out {
		out[i].Content = bytes.Clone(out[i].Content)
	}
	return out
}

func copyOf(f api.Files) api.Files {
	out := api.Files{Root: copyOfFiles(f.Root), Apps: slices.Clone(f.Apps)}
	for i, a := range out.Apps {
		out.Apps[i] = api.App{Name: bytes.Clone(a.Name), Files: copyOfFiles(a.Files)}
	}
	return out
}

// with returns a copy with a change.
func with(f api.Files, change func(f *api.Files)) api.Files {
	f = copyOf(f)
	change(&f)
	return f
}

// textOf writes files as text, so that they can be compared.
func textOf(f api.Files) string {
	var out strings.Builder
	number := func(n int) { out.WriteString(strconv.Itoa(n) + " ") }
	files := func(l []api.File) {
		out.WriteString("{")
		for _, x := range l {
			number(x.ID)
			number(x.Short)
			number(x.Read.Level)
			number(x.Read.Right)
			out.WriteString(strconv.Quote(string(x.Content)))
		}
		out.WriteString("}")
	}
	files(f.Root)
	for _, a := range f.Apps {
		out.WriteString(strconv.Quote(string(a.Name)))
		files(a.Files)
	}
	return out.String()
}

// randomFiles returns files with few numbers, so that each error is frequent, but most often with none.
func randomFiles(r *rand.Rand) []api.File {
	var l []api.File
	for i := range r.Intn(5) {
		x := api.File{ID: 1 + i, Content: samples.Bytes(r.Intn(6)), Read: randomCondition(r)}
		if r.Intn(2) == 0 {
			x.Short = 1 + i
		}
		switch r.Intn(60) {
		case 0:
			x.ID = []int{0, -1, 65536, 65535}[r.Intn(4)]
		case 1:
			x.ID = 1 + r.Intn(3)
		case 2:
			x.Short = []int{-1, 31, 30}[r.Intn(3)]
		case 3:
			x.Short = r.Intn(3)
		case 4:
			x.Read.Right = r.Intn(18) - 1
		case 5:
			x.Read.Level = r.Intn(7) - 1
		case 6:
			x.Content = samples.Bytes(4096 + r.Intn(2))
		}
		l = append(l, x)
	}
	if r.Intn(60) == 0 {
		return append(l, filesOf(23 + r.Intn(3))[len(l):]...)
	}
	return l
}

func randomCondition(r *rand.Rand) api.Access {
	a := api.Access{Level: r.Intn(5)}
	if a.Level == api.LevelTerminal {
		a.Right = r.Intn(16)
	}
	return a
}

func random(r *rand.Rand) api.Files {
	f := api.Files{Root: randomFiles(r)}
	for i := range r.Intn(5) {
		a := api.App{Name: samples.Bytes(i + 1), Files: randomFiles(r)}
		switch r.Intn(40) {
		case 0:
			a.Name = samples.Bytes(17 * r.Intn(2))
		case 1:
			a.Name = samples.Bytes(1 + r.Intn(3))
		}
		f.Apps = append(f.Apps, a)
	}
	if r.Intn(40) == 0 {
		f.Apps = append(f.Apps, api.App{Name: []byte("a")}, api.App{Name: []byte("b")})
	}
	return f
}

// states are all states with some rights.
func states(rights ...int) []api.State {
	var l []api.State
	for password := -1; password <= 6; password++ {
		for flags := range 8 {
			for _, n := range rights {
				l = append(l, api.State{Password: password, Basic: flags&1 != 0, Chip: flags&2 != 0, Terminal: flags&4 != 0, Rights: n})
			}
		}
	}
	return l
}

// open is a state that meets each condition but never.
var open = api.State{Password: api.PasswordPin, Chip: true, Terminal: true, Rights: 65535}
