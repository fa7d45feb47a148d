package command

import (
	"math/rand"
	"testing"

	"traveldoc/api"
)

// P18.4

func expectChain(t *testing.T, c api.Command, size int, want []api.Command) {
	t.Helper()
	l, e := Chain(c, size)
	if e != api.OK || len(l) != len(want) {
		t.Errorf("%.60s in pieces of %d: %d commands and %d, expected %d", textOf(c), size, len(l), e, len(want))
		return
	}
	for i := range want {
		if !same(l[i], want[i]) {
			t.Errorf("%.60s in pieces of %d: %.60s with the index %d, expected %.60s", textOf(c), size, textOf(l[i]), i, textOf(want[i]))
		}
	}
}

func refuseChain(t *testing.T, name string, c api.Command, size int, want api.Errno) {
	t.Helper()
	if l, e := Chain(c, size); e != want || l != nil {
		t.Errorf("%s: %.60s in pieces of %d: %d commands and %d, expected %d", name, textOf(c), size, len(l), e, want)
	}
}

// compareChain compares with the definitions.
func compareChain(t *testing.T, c api.Command, size int) api.Errno {
	t.Helper()
	want, e := definedChain(c, size)
	if e == api.OK {
		expectChain(t, c, size, want)
	} else {
		refuseChain(t, "as defined", c, size, e)
	}
	return e
}

// The commands were written by hand.
func TestChainOfCommands(t *testing.T) {
	of := func(class, expected int, data ...byte) api.Command {
		return api.Command{Class: class, Instruction: 0x2a, P1: 0, P2: 0xbe, Data: data, Expected: expected}
	}
	for _, x := range []struct {
		c    api.Command
		size int
		want []api.Command
	}{
		{of(0, 256, 1, 2, 3, 4, 5), 1, []api.Command{of(16, -1, 1), of(16, -1, 2), of(16, -1, 3), of(16, -1, 4), of(0, 256, 5)}},
		{of(0, 256, 1, 2, 3, 4, 5), 2, []api.Command{of(16, -1, 1, 2), of(16, -1, 3, 4), of(0, 256, 5)}},
		{of(0, 256, 1, 2, 3, 4, 5), 3, []api.Command{of(16, -1, 1, 2, 3), of(0, 256, 4, 5)}},
		{of(0, 256, 1, 2, 3, 4, 5), 4, []api.Command{of(16, -1, 1, 2, 3, 4), of(0, 256, 5)}},
		{of(0, 256, 1, 2, 3, 4, 5), 5, []api.Command{of(0, 256, 1, 2, 3, 4, 5)}},
		{of(0, 256, 1, 2, 3, 4, 5), 6, []api.Command{of(0, 256, 1, 2, 3, 4, 5)}},
		{of(0, 256, 1, 2, 3, 4, 5), 255, []api.Command{of(0, 256, 1, 2, 3, 4, 5)}},
		{of(0x0c, -1, 1, 2, 3, 4), 2, []api.Command{of(0x1c, -1, 1, 2), of(0x0c, -1, 3, 4)}},
		{of(0xee, 65536, 1, 2), 1, []api.Command{of(0xfe, -1, 1), of(0xee, 65536, 2)}},
		{of(0x8f, 1, 9), 1, []api.Command{of(0x8f, 1, 9)}},
		{of(0, 7), 1, []api.Command{of(0, 7)}}, {of(0, -1), 255, []api.Command{of(0, -1)}}, {of(0xee, 65536), 3, []api.Command{of(0xee, 65536)}},
	} {
		expectChain(t, x.c, x.size, x.want)
	}
}

// Each permitted size with Data of fewer, just as many and more bytes.
func TestChainOfEachSize(t *testing.T) {
	for size := 1; size <= 255; size++ {
		for _, n := range []int{0, 1, size - 1, size, size + 1, 2*size - 1, 2 * size, 2*size + 1, 1000, 4095, 4096} {
			c := commandOf(n, 256)
			compareChain(t, c, size)
			l, _ := Chain(c, size)
			if want := max(1, (n+size-1)/size); len(l) != want {
				t.Errorf("%d bytes in pieces of %d: %d commands", n, size, len(l))
			}
			for i, x := range l {
				last := i == len(l)-1
				if !Valid(x) || len(x.Data) > size || !last && len(x.Data) != size || last == (x.Class&16 != 0) {
					t.Errorf("%d bytes in pieces of %d: %.60s with the index %d", n, size, textOf(x), i)
				}
			}
		}
	}
}

func TestChainOfOtherSizes(t *testing.T) {
	for _, size := range []int{0, -1, -2, -255, -1 << 32, -1 << 63, 256, 257, 4096, 65536, 65537, 1 << 32, 1<<32 + 1, 1<<63 - 1} {
		for _, n := range []int{0, 1, 5, 256, 4096} {
			for _, expected := range []int{-1, 1, 65536} {
				refuseChain(t, "size", commandOf(n, expected), size, api.ErrRange)
			}
		}
	}
}

// Half of the classes have the bit, and one of the others would be no class with it.
func TestChainOfEachClass(t *testing.T) {
	permitted := 0
	for class := -300; class <= 600; class++ {
		for _, n := range []int{0, 1, 5} {
			for _, size := range []int{1, 2, 5, 255} {
				c := commandOf(n, 9)
				c.Class = class
				if compareChain(t, c, size) == api.OK {
					permitted++
				}
			}
		}
	}
	if permitted != 127*12 {
		t.Errorf("%d are permitted", permitted)
	}
	for _, class := range []int{0x10, 0x11, 0x1f, 0x30, 0x90, 0xf0, 0xfe, 0xef} {
		for _, n := range []int{0, 1, 300} {
			c := commandOf(n, -1)
			c.Class = class
			refuseChain(t, "class", c, 255, api.ErrInvalid)
		}
	}
}

// A command that is not valid, or may not be chained, comes ahead of a size that is not permitted.
func TestChainOrder(t *testing.T) {
	l := append(defects(),
		defect{"the bit", func(c *api.Command) { c.Class = 0x10 }},
		defect{"no class with the bit", func(c *api.Command) { c.Class = 0xef }})
	for _, d := range l {
		for _, n := range []int{0, 5, 300} {
			for _, size := range []int{1, 255, 0, 256, -1, 1<<63 - 1, -1 << 63} {
				refuseChain(t, d.name, with(commandOf(n, 1), d.make), size, api.ErrInvalid)
			}
		}
	}
}

func TestChainOfRandomCommands(t *testing.T) {
	r := rand.New(rand.NewSource(5))
	seen := map[api.Errno]int{}
	for range 10000 {
		c := random(r)
		if r.Intn(2) == 0 {
			c.Class &^= 16
		}
		if seen[compareChain(t, c, r.Intn(270)-5)]++; t.Failed() {
			break
		}
	}
	for _, e := range []api.Errno{api.OK, api.ErrInvalid, api.ErrRange} {
		if seen[e] < 200 {
			t.Errorf("the error %d occurs %d times", e, seen[e])
		}
	}
}
