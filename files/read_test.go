package files

import (
	"bytes"
	"math/rand"
	"testing"

	"traveldoc/api"
	"traveldoc/samples"
)

// P17.3, conditions

// Each line has the states that meet a level.
func TestAllowed(t *testing.T) {
	for _, s := range states(0, 1, 65535) {
		password := s.Password == 1 || s.Password == 2 || s.Password == 3
		for level, want := range map[int]bool{
			-1 << 63: false, -1: false,
			0: true,
			1: password,
			2: password && s.Chip,
			3: password && s.Chip && s.Terminal && s.Rights != 0,
			4: false, 5: false, 6: false, 1<<63 - 1: false,
		} {
			if got := Allowed(api.Access{Level: level}, s); got != want {
				t.Errorf("level %d in the state %v: %v", level, s, got)
			}
		}
	}
}

func TestAllowedForEachRight(t *testing.T) {
	for right := range 16 {
		a := api.Access{Level: api.LevelTerminal, Right: right}
		bit := 1 << right
		for rights, want := range map[int]bool{
			bit: true, 65535: true, bit | 1<<16: true, 1<<63 - 1: true, bit | 1<<62: true,
			0: false, 65535 - bit: false, bit << 16: false, bit << 1: false, bit >> 1: false, 1 << 16: false, 1<<63 - 1 - bit: false,
			// Numbers below 0 have the bits that they have in memory.
			-1: true, -1 - bit: false, -bit: true, -1 << 63: false, -1<<63 + bit: true, -1 << 16: false, -2 * bit: false,
		} {
			s := open
			if s.Rights = rights; Allowed(a, s) != want {
				t.Errorf("right %d with the rights %#x", right, rights)
			}
		}
	}
}

func TestAllowedForRightsOutOfRange(t *testing.T) {
	for _, right := range []int{-1 << 63, -1 << 32, -64, -17, -16, -1, 16, 17, 31, 32, 62, 63, 64, 65, 1 << 32, 1<<63 - 1} {
		for _, s := range states(0, 1, 32768, 65535, 1<<16, 1<<63-1, -1, -1<<63) {
			for level := -2; level <= 6; level++ {
				// Only LevelTerminal has a right.
				want := level != 3 && allowed(api.Access{Level: level}, s)
				if got := Allowed(api.Access{Level: level, Right: right}, s); got != want {
					t.Errorf("level %d with the right %d, %v: %v", level, right, s, got)
				}
			}
		}
	}
}

// Each level, right and state, with many rights.
func TestAllowedAsDefined(t *testing.T) {
	rights := []int{0, -1, 65535, 65536, -65536, 0x5555, 0xaaaa, 1<<63 - 1, -1 << 63}
	for i := range 17 {
		rights = append(rights, 1<<i, 65535-1<<i, 1<<i-1, -1<<i, -1-1<<i)
	}
	all := states(rights...)
	for level := -2; level <= 6; level++ {
		for right := range 16 {
			a := api.Access{Level: level, Right: right}
			for _, s := range all {
				if Allowed(a, s) != allowed(a, s) {
					t.Fatal(a, s)
				}
			}
		}
	}
}

// P17.4

// root are files with one in the root, with this content and condition.
func root(size int, a api.Access) api.Files {
	return api.Files{Root: []api.File{{ID: 7, Content: samples.Bytes(size), Read: a}}}
}

var first = api.Place{App: -1, File: 0}

func expectRead(t *testing.T, f api.Files, p api.Place, s api.State, offset, n int, want []byte, wantEnd bool, wantError api.Errno) {
	t.Helper()
	data, end, e := Read(f, p, s, offset, n)
	if !bytes.Equal(data, want) || end != wantEnd || e != wantError {
		t.Errorf("%v, %v, offset %d, n %d: %x, %v and %d, expected %x, %v and %d", p, s, offset, n, data, end, e, want, wantEnd, wantError)
	}
	if e != api.OK && data != nil {
		t.Errorf("%v, %v, offset %d, n %d: an error with bytes", p, s, offset, n)
	}
}

func TestReadOfTenBytes(t *testing.T) {
	b := samples.Bytes(10)
	f := root(10, api.Access{})
	for _, x := range []struct {
		offset, n int
		want      []byte
		end       bool
		e         api.Errno
	}{
		{0, 1, b[:1], false, api.OK}, {0, 9, b[:9], false, api.OK}, {0, 10, b, true, api.OK}, {0, 11, b, true, api.OK}, {0, 4096, b, true, api.OK},
		{3, 1, b[3:4], false, api.OK}, {3, 6, b[3:9], false, api.OK}, {3, 7, b[3:], true, api.OK}, {3, 8, b[3:], true, api.OK},
		{9, 1, b[9:], true, api.OK}, {9, 2, b[9:], true, api.OK}, {8, 1, b[8:9], false, api.OK},
		{10, 1, nil, true, api.OK}, {10, 4096, nil, true, api.OK},
		{11, 1, nil, false, api.ErrRange}, {12, 4096, nil, false, api.ErrRange}, {1<<63 - 1, 4096, nil, false, api.ErrRange},
		{-1, 1, nil, false, api.ErrRange}, {-1, 4096, nil, false, api.ErrRange}, {-1 << 63, 1, nil, false, api.ErrRange},
		{0, 0, nil, false, api.ErrRange}, {0, -1, nil, false, api.ErrRange}, {10, 0, nil, false, api.ErrRange}, {0, -1 << 63, nil, false, api.ErrRange},
		{0, 4097, nil, false, api.ErrRange}, {10, 4097, nil, false, api.ErrRange}, {0, 1<<63 - 1, nil, false, api.ErrRange},
		{11, 0, nil, false, api.ErrRange}, {-1, 4097, nil, false, api.ErrRange}, {-5, 10, nil, false, api.ErrRange}, {1<<63 - 1, 1<<63 - 1, nil, false, api.ErrRange},
	} {
		expectRead(t, f, first, api.State{}, x.offset, x.n, x.want, x.end, x.e)
	}
}

// Each size of a content with each offset and n, at their bounds.
func TestReadOfOtherSizes(t *testing.T) {
	for _, size := range []int{0, 1, 2, 255, 256, 4095, 4096} {
		f := root(size, api.Access{})
		for _, offset := range []int{-2, -1, 0, 1, 2, size / 2, size - 2, size - 1, size, size + 1, size + 2, 4096, 4097} {
			for _, n := range []int{-1, 0, 1, 2, size - offset - 1, size - offset, size - offset + 1, 4095, 4096, 4097} {
				data, end, e := definedRead(f, first, open, offset, n)
				expectRead(t, f, first, open, offset, n, data, end, e)
			}
		}
	}
}

func TestReadOfEachFile(t *testing.T) {
	f := passport()
	for _, p := range around(f) {
		for _, s := range append(states(0, 7, 8, 1, 32768, 65535), api.State{}, open) {
			for _, x := range [][2]int{{0, 4096}, {1, 1}, {2, 3}, {-1, 1}, {0, 0}, {0, 4097}, {5000, 1}} {
				data, end, e := definedRead(f, p, s, x[0], x[1])
				expectRead(t, f, p, s, x[0], x[1], data, end, e)
			}
		}
	}
	for _, bad := range invalid() {
		for _, p := range append(places(f), api.Place{App: -2}) {
			expectRead(t, bad, p, open, 0, 1, nil, false, api.ErrInvalid)
			expectRead(t, bad, p, api.State{}, -1, 0, nil, false, api.ErrInvalid)
		}
	}
}

// All sets of what is wrong, in the order of the errors.
func TestReadOrder(t *testing.T) {
	for set := range 64 {
		has := func(bit int) bool { return set>>bit&1 == 1 }
		f, p, s, offset, n := passport(), api.Place{App: 0, File: 2}, open, 5, 6
		want := api.OK
		apply := func(bit int, e api.Errno, change func()) {
			if has(bit) {
				change()
				if want == api.OK {
					want = e
				}
			}
		}
		apply(0, api.ErrInvalid, func() { f.Apps[2].Files[1].ID = 0 })
		apply(1, api.ErrInvalid, func() { p.App = 3 })
		apply(2, api.ErrMissing, func() { p.File = -1 })
		apply(3, api.ErrAccess, func() { s.Rights = 7 })
		apply(4, api.ErrRange, func() { offset = 301 })
		apply(5, api.ErrRange, func() { n = 0 })
		var data []byte
		if want == api.OK {
			data = samples.Bytes(11)[5:]
		}
		expectRead(t, f, p, s, offset, n, data, false, want)
	}
}

func TestReadOfRandomFiles(t *testing.T) {
	r := rand.New(rand.NewSource(5))
	seen := map[api.Errno]int{}
	for range 30000 {
		f := random(r)
		l := places(f)
		if r.Intn(8) == 0 {
			l = around(f)
		}
		p := l[r.Intn(len(l))]
		s := api.State{Password: r.Intn(5), Basic: r.Intn(2) == 0, Chip: r.Intn(4) > 0, Terminal: r.Intn(4) > 0, Rights: r.Intn(65536)}
		offset, n := r.Intn(8)-1, r.Intn(8)
		data, end, e := definedRead(f, p, s, offset, n)
		expectRead(t, f, p, s, offset, n, data, end, e)
		if seen[e]++; t.Failed() {
			t.Fatal(textOf(f))
		}
	}
	for _, e := range []api.Errno{api.OK, api.ErrInvalid, api.ErrMissing, api.ErrAccess, api.ErrRange} {
		if seen[e] < 1000 {
			t.Errorf("the error %d occurs %d times", e, seen[e])
		}
	}
}

// The consequences

// richer are the states that have one thing more than another.
func richer(s api.State) []api.State {
	var l []api.State
	add := func(change func(s *api.State)) {
		more := s
		change(&more)
		l = append(l, more)
	}
	if s.Password < 1 || s.Password > 3 {
		for password := 1; password <= 3; password++ {
			add(func(s *api.State) { s.Password = password })
		}
	}
	add(func(s *api.State) { s.Basic = true })
	add(func(s *api.State) { s.Chip = true })
	add(func(s *api.State) { s.Terminal = true })
	for right := range 16 {
		add(func(s *api.State) { s.Rights |= 1 << right })
	}
	return l
}

func TestAStateWithMoreReadsWhatAStateWithLessReads(t *testing.T) {
	f := passport()
	for _, p := range places(f) {
		for _, s := range states(0, 1, 8, 7, 9, 32768, 65535) {
			data, end, e := Read(f, p, s, 0, 4096)
			if e != api.OK {
				continue
			}
			for _, more := range richer(s) {
				expectRead(t, f, p, more, 0, 4096, data, end, api.OK)
			}
		}
	}
	for level := -1; level <= 5; level++ {
		for right := range 16 {
			a := api.Access{Level: level, Right: right}
			for _, s := range states(0, 1<<right, 65535-1<<right, 65535) {
				for _, more := range richer(s) {
					if Allowed(a, s) && !Allowed(a, more) {
						t.Error(a, s, more)
					}
				}
			}
		}
	}
}

// pieces reads a file piece by piece, at most n bytes each, and says how many pieces there were.
func pieces(t *testing.T, f api.Files, n int) (content []byte, count int) {
	t.Helper()
	for {
		data, end, e := Read(f, first, open, len(content), n)
		if e != api.OK || len(data) > n {
			t.Fatal(len(content), n, len(data), e)
		}
		content = append(content, data...)
		count++
		if end {
			return content, count
		}
		if len(data) != n {
			t.Fatal("a piece that is not the last one is too short", len(content), n)
		}
	}
}

func TestReadingPieceByPieceReturnsTheContent(t *testing.T) {
	for _, size := range []int{0, 1, 2, 3, 10, 100, 255, 256, 4095, 4096} {
		f := root(size, api.Access{Level: api.LevelTerminal, Right: 9})
		for _, n := range []int{1, 2, 3, 7, 10, 50, 99, 100, 101, 128, 255, 256, 257, 2048, 4095, 4096} {
			content, count := pieces(t, f, n)
			// The end is told with the last piece that has bytes, and with the only one of a content that has none.
			if !bytes.Equal(content, samples.Bytes(size)) || count != max(1, (size+n-1)/n) {
				t.Errorf("%d bytes in pieces of %d: %d bytes in %d pieces", size, n, len(content), count)
			}
			expectRead(t, f, first, open, size, n, nil, true, api.OK)
		}
	}
}

// The examples

func TestExamples(t *testing.T) {
	f := passport()
	// 1
	puk := open
	puk.Password = api.PasswordPuk
	for _, p := range places(f) {
		x := definedFile(f, p)
		if x == nil {
			continue
		}
		_, _, e := Read(f, p, puk, 0, 1)
		if free := x.Read.Level == api.LevelFree; free != (e == api.OK) || !free && e != api.ErrAccess {
			t.Error(p, e)
		}
	}
	// 2
	for _, size := range []int{0, 1, 20, 4096} {
		expectRead(t, root(size, api.Access{}), first, api.State{}, size, 1, nil, true, api.OK)
	}
	// 3
	guarded := api.Place{App: 0, File: 2}
	s := open
	s.Rights = 8
	expectRead(t, f, guarded, s, 0, 2, []byte{11, 48}, false, api.OK)
	s.Rights = 7
	expectRead(t, f, guarded, s, 0, 2, nil, false, api.ErrAccess)
}
