package command

import (
	"math/rand"
	"testing"

	"traveldoc/api"
	"traveldoc/samples"
)

// P18.5

func expectJoin(t *testing.T, first, next, want api.Command, wantEnd bool) {
	t.Helper()
	if c, end, e := Join(first, next); e != api.OK || end != wantEnd || !same(c, want) {
		t.Errorf("%.60s and %.60s: %.60s, %v and %d, expected %.60s and %v", textOf(first), textOf(next), textOf(c), end, e, textOf(want), wantEnd)
	}
}

func refuseJoin(t *testing.T, name string, first, next api.Command, want api.Errno) {
	t.Helper()
	if c, end, e := Join(first, next); e != want || end || !isZero(c) {
		t.Errorf("%s: %.60s and %.60s: %.60s, %v and %d, expected %d", name, textOf(first), textOf(next), textOf(c), end, e, want)
	}
}

// compareJoin compares with the definitions.
func compareJoin(t *testing.T, first, next api.Command) api.Errno {
	t.Helper()
	want, end, e := definedJoin(first, next)
	if e == api.OK {
		expectJoin(t, first, next, want, end)
	} else {
		refuseJoin(t, "as defined", first, next, e)
	}
	return e
}

// The commands were written by hand.
func TestJoinOfCommands(t *testing.T) {
	of := func(class, expected int, data ...byte) api.Command {
		return api.Command{Class: class, Instruction: 0x2a, P1: 0, P2: 0xbe, Data: data, Expected: expected}
	}
	for _, x := range []struct {
		first, next, want api.Command
		end               bool
	}{
		{of(16, -1, 1, 2), of(0, 256, 3), of(0, 256, 1, 2, 3), true},
		{of(16, -1, 1, 2), of(16, -1, 3), of(0, -1, 1, 2, 3), false},
		{of(0, -1, 1, 2), of(0, 7, 3), of(0, 7, 1, 2, 3), true},
		{of(0, -1, 1, 2), of(16, 7, 3), of(0, 7, 1, 2, 3), false},
		{of(16, 9, 1), of(0, -1, 2), of(0, -1, 1, 2), true},
		{of(0x1c, -1), of(0x0c, 1, 2), of(0x0c, 1, 2), true},
		{of(0x1c, -1, 2), of(0x0c, 1), of(0x0c, 1, 2), true},
		{of(0x1c, -1), of(0x1c, 1), of(0x0c, 1), false},
		{of(0xfe, -1, 1), of(0xee, 65536, 2), of(0xee, 65536, 1, 2), true},
		{of(0xef, -1, 1), of(0xef, 1, 2), of(0xef, 1, 1, 2), true},
		{of(0xfe, -1, 2, 1), of(0xfe, 65536, 1, 2), of(0xee, 65536, 2, 1, 1, 2), false},
	} {
		expectJoin(t, x.first, x.next, x.want, x.end)
	}
}

// Each pair of classes: only those that differ in nothing but the bit are joined.
func TestJoinOfEachClass(t *testing.T) {
	joined := 0
	for a := -1; a <= 256; a++ {
		for b := -1; b <= 256; b++ {
			first, next := commandOf(1, -1), commandOf(2, 8)
			first.Class, next.Class = a, b
			if compareJoin(t, first, next) == api.OK {
				joined++
			}
		}
	}
	// The class without the bit whose bit is missing has one pair, all others four.
	if joined != 127*4+1 {
		t.Errorf("%d pairs are joined", joined)
	}
}

func TestJoinOfOthers(t *testing.T) {
	for _, class := range []int{0x0c, 0x1c} {
		first := with(commandOf(3, -1), func(c *api.Command) { c.Class = class })
		for n := range 256 {
			for name, change := range map[string]func(c *api.Command){
				"Instruction": func(c *api.Command) { c.Instruction = n },
				"P1":          func(c *api.Command) { c.P1 = n },
				"P2":          func(c *api.Command) { c.P2 = n },
			} {
				next := with(commandOf(2, 4), change)
				if numbersIn(next) == numbersIn(commandOf(2, 4)) {
					compareJoin(t, first, next)
					continue
				}
				refuseJoin(t, name, first, next, api.ErrState)
				refuseJoin(t, name, next, first, api.ErrState)
			}
		}
	}
	// Neither Data nor Expected have to be the same.
	for _, expected := range expecteds() {
		compareJoin(t, commandOf(3, expected), commandOf(2, 4))
		compareJoin(t, commandOf(3, 4), commandOf(2, expected))
	}
}

func TestJoinOfAllSizes(t *testing.T) {
	for _, a := range sizes() {
		for _, b := range append(sizes(), 4096-a, 4095-a, max(0, 4097-a)) {
			if b < 0 || b > 4096 {
				continue
			}
			want := api.OK
			if a+b > 4096 {
				want = api.ErrSize
			}
			first, next := commandOf(a, -1), commandOf(b, 9)
			if e := compareJoin(t, first, next); e != want {
				t.Errorf("%d and %d bytes: %d", a, b, e)
			}
		}
	}
	refuseJoin(t, "4097 bytes", commandOf(4096, -1), commandOf(1, -1), api.ErrSize)
	refuseJoin(t, "4097 bytes", commandOf(1, -1), commandOf(4096, -1), api.ErrSize)
	expectJoin(t, commandOf(4096, -1), commandOf(0, 5), commandOf(4096, 5), true)
	expectJoin(t, commandOf(0, -1), commandOf(4096, 5), commandOf(4096, 5), true)
}

// All sets of what is wrong, in the order of the errors.
func TestJoinOrder(t *testing.T) {
	for _, d := range defects() {
		for set := range 64 {
			first, next := commandOf(10, -1), commandOf(5, 6)
			want := api.OK
			apply := func(bit int, e api.Errno, change func()) {
				if set>>bit&1 == 1 {
					change()
					if want == api.OK || e == api.ErrInvalid || e == api.ErrState && want == api.ErrSize {
						want = e
					}
				}
			}
			apply(0, api.ErrSize, func() { first.Data = samples.Bytes(4092) })
			apply(1, api.ErrState, func() { next.P2++ })
			apply(2, api.ErrState, func() { next.Class ^= 1 })
			apply(3, api.ErrState, func() { first.Instruction-- })
			apply(4, api.ErrInvalid, func() { d.make(&first) })
			apply(5, api.ErrInvalid, func() { d.make(&next) })
			if want == api.OK {
				expectJoin(t, first, next, with(next, func(c *api.Command) { c.Data = append(samples.Bytes(10), samples.Bytes(5)...) }), true)
				continue
			}
			refuseJoin(t, d.name, first, next, want)
		}
	}
}

func TestJoinOfRandomCommands(t *testing.T) {
	r := rand.New(rand.NewSource(6))
	seen := map[api.Errno]int{}
	for range 20000 {
		first, next := random(r), random(r)
		if r.Intn(3) > 0 {
			next.Class, next.Instruction, next.P1, next.P2 = first.Class, first.Instruction, first.P1, first.P2
			next.Class ^= 16 * r.Intn(2)
		}
		if seen[compareJoin(t, first, next)]++; t.Failed() {
			break
		}
	}
	for _, e := range []api.Errno{api.OK, api.ErrInvalid, api.ErrState, api.ErrSize} {
		if seen[e] < 200 {
			t.Errorf("the error %d occurs %d times", e, seen[e])
		}
	}
}
