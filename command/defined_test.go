package command

import (
	"bytes"
	"encoding/hex"
	"math/rand"
	"slices"
	"strconv"
	"testing"

	"traveldoc/api"
	"traveldoc/samples"
)

// The definitions of the chapter once more, written in another way, and the commands that the tests use.

// numbersIn are the numbers of a command, all but its Data.
func numbersIn(c api.Command) [5]int {
	return [...]int{c.Class, c.Instruction, c.P1, c.P2, c.Expected}
}

// same compares commands, where nil and empty Data are equal.
func same(a, b api.Command) bool {
	return numbersIn(a) == numbersIn(b) && bytes.Equal(a.Data, b.Data)
}

// textOf writes a command as text.
func textOf(c api.Command) string {
	text := ""
	for _, n := range numbersIn(c) {
		text += strconv.Itoa(n) + " "
	}
	return text + hex.EncodeToString(c.Data)
}

// isZero reports whether a command is what an error comes with: also an empty slice of Data is none.
func isZero(c api.Command) bool { return numbersIn(c) == [5]int{} && c.Data == nil }

// valid compares each number with the next one that is permitted.
func valid(c api.Command) bool {
	found := true
	for _, x := range [][2]int{{c.Class, 255}, {c.Instruction, 256}, {c.P1, 256}, {c.P2, 256}, {len(c.Data), 4097}} {
		found = found && max(0, min(x[0], x[1]-1)) == x[0]
	}
	return found && c.Expected != 0 && c.Expected == max(-1, min(c.Expected, 65536))
}

// form is one of the forms that a command has as bytes: whether lengths are extended, whether there are Data, and whether there is an Expected.
type form struct{ extended, data, expected bool }

// forms are those that there are: there is no extended form without a length.
func forms() []form {
	return []form{
		{false, false, false}, {false, false, true}, {false, true, false}, {false, true, true},
		{true, false, true}, {true, true, false}, {true, true, true},
	}
}

// text writes a command in a form as hexadecimal text, and says whether it has this form.
func (f form) text(c api.Command) (string, bool) {
	size, most, mark := 1, 256, ""
	if f.extended {
		size, most, mark = 2, 65536, "00"
	}
	text := samples.Digits(c.Class, 1) + samples.Digits(c.Instruction, 1) + samples.Digits(c.P1, 1) + samples.Digits(c.P2, 1) + mark
	if f.data != (len(c.Data) > 0) || f.expected != (c.Expected > 0) || len(c.Data) >= most || c.Expected > most {
		return "", false
	}
	if f.data {
		text += samples.Digits(len(c.Data), size) + hex.EncodeToString(c.Data)
	}
	switch {
	case c.Expected == most:
		text += samples.Digits(0, size)
	case f.expected:
		text += samples.Digits(c.Expected, size)
	}
	return text, true
}

// writings are the bytes of a valid command in each form that it has: with short lengths first, which is its encoding where it has them.
func writings(c api.Command) [][]byte {
	var l [][]byte
	for _, f := range forms() {
		if text, ok := f.text(c); ok {
			b, err := hex.DecodeString(text)
			if err != nil {
				panic(err)
			}
			l = append(l, b)
		}
	}
	return l
}

// cursor reads bytes from the left, and fails where there are not enough.
type cursor struct {
	b      []byte
	failed bool
}

func (x *cursor) take(n int) []byte {
	if n > len(x.b) {
		x.failed = true
		return make([]byte, n)
	}
	out := x.b[:n]
	x.b = x.b[n:]
	return out
}

func (x *cursor) number(size int) int {
	n := 0
	for _, digit := range x.take(size) {
		n = n*256 + int(digit)
	}
	return n
}

// read reads bytes that have a form.
func (f form) read(b []byte) (api.Command, bool) {
	x := &cursor{b: b}
	c := api.Command{Class: x.number(1), Instruction: x.number(1), P1: x.number(1), P2: x.number(1), Expected: -1}
	size, zero := 1, 256
	if f.extended {
		size, zero = 2, 65536
		x.failed = x.failed || x.number(1) != 0
	}
	if f.data {
		n := x.number(size)
		x.failed = x.failed || n == 0
		c.Data = x.take(n)
	}
	if f.expected {
		if c.Expected = x.number(size); c.Expected == 0 {
			c.Expected = zero
		}
	}
	return c, !x.failed && len(x.b) == 0
}

// definedDecode tries each form, of which bytes have one at most.
func definedDecode(t *testing.T, b []byte) (api.Command, api.Errno) {
	t.Helper()
	if len(b) < 4 {
		return api.Command{}, api.ErrTruncated
	}
	var found []api.Command
	for _, f := range forms() {
		if c, ok := f.read(b); ok {
			found = append(found, c)
		}
	}
	switch {
	case len(found) > 1:
		t.Fatalf("%x has several forms", b)
	case len(found) == 0, len(found[0].Data) >= 4097:
		return api.Command{}, api.ErrSize
	case found[0].Class == 255:
		return api.Command{}, api.ErrInvalid
	}
	return found[0], api.OK
}

// definedChain finds, for each place, the command of the chain that has it.
func definedChain(c api.Command, size int) ([]api.Command, api.Errno) {
	if !valid(c) || c.Class>>4%2 == 1 || c.Class == 0xef {
		return nil, api.ErrInvalid
	}
	if size <= 0 || size >= 256 {
		return nil, api.ErrRange
	}
	only := c
	only.Data = nil
	l := []api.Command{only}
	for i, x := range c.Data {
		if i/size == len(l) {
			l = append(l, only)
		}
		l[i/size].Data = append(l[i/size].Data, x)
	}
	for i := range l[1:] {
		l[i].Class += 16
		l[i].Expected = -1
	}
	return l, api.OK
}

// definedJoin takes the bit away by arithmetic.
func definedJoin(first, next api.Command) (api.Command, bool, api.Errno) {
	if !valid(first) || !valid(next) {
		return api.Command{}, false, api.ErrInvalid
	}
	without := func(c api.Command) (api.Command, bool) {
		has := c.Class%32 >= 16
		if has {
			c.Class -= 16
		}
		return c, has
	}
	a, _ := without(first)
	b, has := without(next)
	if [4]int{a.Class, a.Instruction, a.P1, a.P2} != [4]int{b.Class, b.Instruction, b.P1, b.P2} {
		return api.Command{}, false, api.ErrState
	}
	all := slices.Concat(a.Data, b.Data)
	if len(all) >= 4097 {
		return api.Command{}, false, api.ErrSize
	}
	b.Data = all
	return b, !has, api.OK
}

// commandOf returns a command with so many bytes of Data.
func commandOf(size, expected int) api.Command {
	return api.Command{Class: 0x0c, Instruction: 0xb0, P1: 0x81, P2: 2, Data: samples.Bytes(size), Expected: expected}
}

// with returns a copy with a change.
func with(c api.Command, change func(c *api.Command)) api.Command {
	c.Data = bytes.Clone(c.Data)
	change(&c)
	return c
}

// sizes are numbers of bytes of Data that are permitted, at the bounds of all that depends on them.
func sizes() []int {
	return []int{0, 1, 2, 3, 127, 128, 253, 254, 255, 256, 257, 258, 511, 512, 1000, 4094, 4095, 4096}
}

// expecteds are permitted values of Expected, at the bounds of all that depends on them.
func expecteds() []int {
	return []int{-1, 1, 2, 127, 128, 254, 255, 256, 257, 258, 511, 512, 4096, 32768, 65279, 65280, 65281, 65534, 65535, 65536}
}

// defect makes a valid command invalid.
type defect struct {
	name string
	make func(c *api.Command)
}

// defects are all that a command may have, at the bounds and with numbers of which a part has a permitted value.
func defects() []defect {
	var l []defect
	add := func(name string, n int, set func(c *api.Command, n int)) {
		l = append(l, defect{name + " " + strconv.Itoa(n), func(c *api.Command) { set(c, n) }})
	}
	for _, n := range []int{-1, -2, -16, -255, -256, 255, 256, 257, 271, 511, 65536, 1 << 32, 1<<32 + 1, -1 << 32, 1<<63 - 1, -1 << 63} {
		add("Class", n, func(c *api.Command, n int) { c.Class = n })
	}
	for _, n := range []int{-1, -2, -128, -256, 256, 257, 511, 512, 65536, 1 << 32, 1<<32 + 5, -1 << 32, 1<<63 - 1, -1 << 63} {
		add("Instruction", n, func(c *api.Command, n int) { c.Instruction = n })
		add("P1", n, func(c *api.Command, n int) { c.P1 = n })
		add("P2", n, func(c *api.Command, n int) { c.P2 = n })
	}
	for _, n := range []int{0, -2, -3, -256, -65536, 65537, 65538, 131072, 1 << 32, 1<<32 - 1, 1<<32 + 1, -1 << 32, 1<<63 - 1, -1 << 63} {
		add("Expected", n, func(c *api.Command, n int) { c.Expected = n })
	}
	for _, n := range []int{4097, 4098, 8192, 65535, 65536, 65537, 1 << 20} {
		add("Data", n, func(c *api.Command, n int) { c.Data = samples.Bytes(n) })
	}
	return l
}

// random returns a command, with few bytes of Data or many, which is most often valid.
func random(r *rand.Rand) api.Command {
	number := func() int { return []int{r.Intn(256), r.Intn(4), 255 - r.Intn(4)}[r.Intn(3)] }
	c := api.Command{Class: number() % 255, Instruction: number(), P1: number(), P2: number(), Expected: -1}
	c.Data = samples.Bytes([]int{0, r.Intn(8), r.Intn(260), 250 + r.Intn(12), r.Intn(4097)}[r.Intn(5)])
	if r.Intn(3) > 0 {
		c.Expected = 1 + []int{r.Intn(256), 250 + r.Intn(12), r.Intn(65536), 65535 - r.Intn(4)}[r.Intn(4)]
	}
	if r.Intn(10) == 0 {
		l := defects()
		l[r.Intn(len(l))].make(&c)
	}
	return c
}
