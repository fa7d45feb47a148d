package samples

import (
	"bytes"
	"strconv"
	"strings"

	"traveldoc/api"
)

// SameNodes compares objects, where nil and empty slices are equal.
func SameNodes(a, b []api.Node) bool {
	if len(a) != len(b) {
		return false
	}
	for i := range a {
		if a[i].Tag != b[i].Tag || !bytes.Equal(a[i].Value, b[i].Value) || !SameNodes(a[i].Kids, b[i].Kids) {
			return false
		}
	}
	return true
}

// CopyNodes returns a copy of objects that shares no memory with them.
func CopyNodes(l []api.Node) []api.Node {
	out := make([]api.Node, len(l))
	for i, n := range l {
		out[i] = api.Node{Tag: n.Tag, Value: bytes.Clone(n.Value), Kids: CopyNodes(n.Kids)}
	}
	return out
}

// ScribbleNodes overwrites all that belongs to objects, up to the capacities of their slices.
func ScribbleNodes(l []api.Node) {
	for i := range l {
		ScribbleNodes(l[i].Kids)
		Scribble(l[i].Value)
	}
	l = l[:cap(l)]
	for i := range l {
		l[i] = api.Node{Tag: -9}
	}
}

// TextOfNodes writes objects as text: for each one its tag, its Value and its Kids.
func TextOfNodes(l []api.Node) string {
	var out strings.Builder
	for _, n := range l {
		out.WriteString(strconv.FormatInt(int64(n.Tag), 16) + "[")
		for _, x := range n.Value {
			out.WriteString(Digits(int(x), 1))
		}
		out.WriteString("](" + TextOfNodes(n.Kids) + ")")
	}
	return out.String()
}

// SeeNodes calls what with each object, and all below.
func SeeNodes(l []api.Node, what func(n *api.Node)) {
	for i := range l {
		SeeNodes(l[i].Kids, what)
		what(&l[i])
	}
}

// EachNode calls what for each object, and all below, with its tag: change makes a change to this object, in a copy of all.
func EachNode(l []api.Node, what func(tag int, change func(func(n *api.Node)) []api.Node)) {
	var tags []int
	SeeNodes(l, func(n *api.Node) { tags = append(tags, n.Tag) })
	for place, tag := range tags {
		what(tag, func(f func(n *api.Node)) []api.Node {
			out := CopyNodes(l)
			at := 0
			SeeNodes(out, func(n *api.Node) {
				if at == place {
					f(n)
				}
				at++
			})
			return out
		})
	}
}
