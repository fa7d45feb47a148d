package command

import (
	"bytes"
	"math/rand"
	"testing"

	"traveldoc/api"
	"traveldoc/samples"
)

// R2

// roomy returns a copy whose Data have room behind them that is not empty.
func roomy(c api.Command) api.Command {
	c.Data = samples.Roomy(c.Data)
	return c
}

// whole returns a copy of bytes up to their capacity.
func whole(b []byte) []byte { return bytes.Clone(b[:cap(b)]) }

// given are commands for all functions, valid and not.
func given() []api.Command {
	l := []api.Command{{}, {Expected: -1}, {Class: 0x1c, Expected: -1}, {Class: 0xef, Data: []byte{1}, Expected: 5}}
	for _, size := range []int{0, 1, 5, 6, 255, 256, 4095, 4096, 4097} {
		for _, expected := range []int{-1, 0, 1, 256, 257, 65536} {
			c := commandOf(size, expected)
			l = append(l, c, with(c, func(c *api.Command) { c.Class |= 16 }))
		}
	}
	return l
}

// expectUntouched reports memory that is another now.
func expectUntouched(t *testing.T, name string, b, before []byte) {
	t.Helper()
	if !bytes.Equal(b[:cap(b)], before) {
		t.Errorf("%.60s: %.40x is %.40x", name, before, b[:cap(b)])
	}
}

// What was given stays as it was, with the room behind it, also where there is an error.
func TestArgumentsStayAsTheyWere(t *testing.T) {
	next := roomy(commandOf(7, 9))
	nextBefore := whole(next.Data)
	for _, c := range given() {
		c = roomy(c)
		before := whole(c.Data)
		Valid(c)
		Encode(c)
		for _, size := range []int{0, 1, 2, 255, 256} {
			Chain(c, size)
		}
		Join(c, next)
		Join(next, c)
		Join(c, c)
		EncodeResponse(api.Response{Data: c.Data, Status: c.Expected})
		expectUntouched(t, textOf(c), c.Data, before)
		expectUntouched(t, "next", next.Data, nextBefore)
	}
	r := rand.New(rand.NewSource(9))
	for range 2000 {
		c := random(r)
		if !valid(c) {
			continue
		}
		for _, b := range append(writings(c), samples.Bytes(r.Intn(9))) {
			b = samples.Roomy(b)
			before := whole(b)
			Decode(b)
			DecodeResponse(b)
			expectUntouched(t, "bytes", b, before)
		}
	}
}

// scribble overwrites bytes, so that all that shares memory with them turns.
func scribble(l ...[]byte) {
	for _, b := range l {
		samples.Scribble(b)
	}
}

// Data that are returned share no bytes with what was read, nor with what is returned the next time.
func TestWhatIsReadIsNew(t *testing.T) {
	for _, size := range []int{0, 1, 2, 255, 256, 4096} {
		for _, expected := range []int{-1, 1, 256, 65536} {
			want := commandOf(size, expected)
			for _, b := range writings(want) {
				b = samples.Roomy(b)
				before := whole(b)
				c, _ := Decode(b)
				again, _ := Decode(b)
				scribble(c.Data)
				expectUntouched(t, "bytes", b, before)
				if !same(again, want) {
					t.Errorf("%.60s is %.60s the next time", textOf(want), textOf(again))
				}
				// Nor do they turn with the bytes.
				if scribble(b); !same(again, want) {
					t.Errorf("%.60s turns with the bytes", textOf(want))
				}
			}
		}
		b := samples.Roomy(samples.Bytes(size + 2))
		before := whole(b)
		r, _ := DecodeResponse(b)
		again, _ := DecodeResponse(b)
		scribble(r.Data)
		expectUntouched(t, "response", b, before)
		if scribble(b); !bytes.Equal(again.Data, samples.Bytes(size)) {
			t.Errorf("a response of %d bytes turns with the bytes", size)
		}
	}
}

func TestWhatIsWrittenIsNew(t *testing.T) {
	for _, c := range given() {
		c = roomy(c)
		before := whole(c.Data)
		for _, write := range []func() ([]byte, api.Errno){
			func() ([]byte, api.Errno) { return Encode(c) },
			func() ([]byte, api.Errno) { return EncodeResponse(api.Response{Data: c.Data, Status: 0x9000}) },
		} {
			b, _ := write()
			again, _ := write()
			want := bytes.Clone(again)
			scribble(b)
			expectUntouched(t, "Data", c.Data, before)
			if !bytes.Equal(again, want) {
				t.Errorf("%.60s: bytes share memory", textOf(c))
			}
		}
	}
}

// The commands of a chain share memory neither with the command nor with each other.
func TestChainsAreNew(t *testing.T) {
	for _, plain := range given() {
		c := roomy(plain)
		before := whole(c.Data)
		for _, size := range []int{1, 2, 3, 6, 255} {
			want, e := definedChain(plain, size)
			if e != api.OK {
				continue
			}
			l, _ := Chain(c, size)
			again, _ := Chain(c, size)
			for i, x := range l {
				if !same(x, want[i]) || !same(again[i], want[i]) {
					t.Errorf("pieces of %d, the index %d: shared memory", size, i)
				}
				scribble(x.Data)
				expectUntouched(t, "Data", c.Data, before)
			}
			clear(l[:cap(l)])
			scribble(c.Data)
			for i, x := range again {
				if !same(x, want[i]) {
					t.Errorf("pieces of %d, the index %d, turn with the command", size, i)
				}
			}
			// What is overwritten twice is as it was.
			scribble(c.Data)
		}
	}
}

func TestWhatIsJoinedIsNew(t *testing.T) {
	for _, sizes := range [][2]int{{0, 0}, {0, 5}, {5, 0}, {1, 1}, {5, 7}, {300, 300}, {4095, 1}} {
		plain, plainNext := commandOf(sizes[0], -1), commandOf(sizes[1], 3)
		want, _, _ := definedJoin(plain, plainNext)
		first, next := roomy(plain), roomy(plainNext)
		before, nextBefore := whole(first.Data), whole(next.Data)
		c, _, _ := Join(first, next)
		again, _, _ := Join(first, next)
		scribble(c.Data)
		expectUntouched(t, "first", first.Data, before)
		expectUntouched(t, "next", next.Data, nextBefore)
		if scribble(first.Data, next.Data); !same(again, want) {
			t.Errorf("%d and %d bytes: shared memory", sizes[0], sizes[1])
		}
	}
	// A command may be joined with itself.
	c := roomy(commandOf(5, 3))
	both, end, e := Join(c, c)
	if scribble(c.Data); e != api.OK || !end || !bytes.Equal(both.Data, append(samples.Bytes(5), samples.Bytes(5)...)) {
		t.Error(textOf(both), end, e)
	}
}

// R3: no Data may be nil or an empty slice.
func TestNilAndEmptyDataAreEqual(t *testing.T) {
	for _, expected := range []int{-2, -1, 0, 1, 256, 257, 65536} {
		plain := api.Command{Class: 4, Instruction: 5, P1: 6, P2: 7, Expected: expected}
		next := with(commandOf(2, 1), func(c *api.Command) { c.Class, c.Instruction, c.P1, c.P2 = 20, 5, 6, 7 })
		for _, data := range [][]byte{nil, {}, make([]byte, 0, 9)} {
			c := plain
			c.Data = data
			if valid(plain) {
				expectEncode(t, c, writings(plain)[0])
			} else {
				expectInvalid(t, "no Data", c)
			}
			compareChain(t, c, 3)
			compareJoin(t, c, next)
			compareJoin(t, next, c)
			compareJoin(t, c, c)
			expectResponse(t, api.Response{Data: data, Status: 7}, []byte{0, 7})
		}
	}
	for _, b := range [][]byte{nil, {}, make([]byte, 0, 9)} {
		refuse(t, b, api.ErrTruncated)
		refuseResponseBytes(t, b, api.ErrTruncated)
	}
}
