package command

import (
	"bytes"
	"math/rand"
	"testing"

	"traveldoc/api"
	"traveldoc/samples"
)

// The consequences

func TestDecodeOfEncode(t *testing.T) {
	check := func(c api.Command) {
		t.Helper()
		b, e := Encode(c)
		if e != api.OK {
			t.Errorf("%.60s: %d", textOf(c), e)
		}
		accept(t, b, c)
	}
	for _, size := range sizes() {
		for _, expected := range expecteds() {
			check(commandOf(size, expected))
		}
	}
	r := rand.New(rand.NewSource(7))
	for range 10000 {
		if c := random(r); valid(c) {
			check(c)
		}
	}
}

// joined joins the commands of a chain, of which only the last one ends it.
func joined(t *testing.T, l []api.Command) api.Command {
	t.Helper()
	c := l[0]
	for i, next := range l[1:] {
		whole, end, e := Join(c, next)
		if e != api.OK || end != (i == len(l)-2) {
			t.Fatalf("the index %d of %d: %v and %d", i+1, len(l), end, e)
		}
		c = whole
	}
	return c
}

func TestJoiningTheCommandsOfAChain(t *testing.T) {
	check := func(c api.Command, size int) {
		t.Helper()
		l, e := Chain(c, size)
		if e != api.OK || len(l) == 0 {
			t.Fatal(textOf(c), size, e)
		}
		if got := joined(t, l); !same(got, c) {
			t.Errorf("%.60s in pieces of %d is %.60s", textOf(c), size, textOf(got))
		}
		// On the way, each command is bytes.
		for i, x := range l {
			b, e := Encode(x)
			if e != api.OK {
				t.Errorf("%.60s: %d", textOf(x), e)
			}
			l[i], _ = Decode(b)
		}
		if got := joined(t, l); !same(got, c) {
			t.Errorf("%.60s in pieces of %d is %.60s behind Decode", textOf(c), size, textOf(got))
		}
	}
	for _, n := range sizes() {
		for _, size := range []int{1, 2, 3, 100, 128, 254, 255} {
			for _, expected := range []int{-1, 1, 256, 257, 65536} {
				if n/size < 600 {
					check(commandOf(n, expected), size)
				}
			}
		}
	}
	check(commandOf(4096, 256), 1)
	r := rand.New(rand.NewSource(8))
	for range 2000 {
		c := random(r)
		c.Class &^= 16
		if valid(c) && c.Class != 0xef {
			check(c, 20+r.Intn(236))
		}
	}
}

// The examples

func TestExamples(t *testing.T) {
	// 1
	name := api.Command{Class: 0, Instruction: 0xa4, P1: 4, P2: 12, Data: []byte{7}, Expected: -1}
	expectEncode(t, name, samples.Unhex("00 a4 04 0c 01 07"))
	accept(t, samples.Unhex("00 a4 04 0c 01 07"), name)
	// 2
	read := api.Command{Instruction: 0xb0, Expected: 256}
	expectEncode(t, read, samples.Unhex("00 b0 00 00 00"))
	accept(t, samples.Unhex("00 b0 00 00 00"), read)
	// 3
	accept(t, samples.Unhex("00 b0 00 00 00 01 00"), read)
	// 4
	for _, expected := range []int{-1, 1} {
		l, e := Chain(commandOf(5, expected), 2)
		if e != api.OK || len(l) != 3 || !bytes.Equal(l[2].Data, samples.Bytes(5)[4:]) {
			t.Error(len(l), e)
		}
	}
}
