package samples

import (
	"bytes"

	"traveldoc/api"
)

// SameNodes compares objects, where nil and empty slices are equal.
func SameNodes(a, b []api.Node) bool {
	if len(a) != len(b) {
		return false
	}
	for i := range a {
		if a[i].Tag != b[i].Tag || !bytes.Equal(a[i].Value, b[i].Value) || !SameNodes(a[i].Kids, b[i].Kids) {
			return false
		}
	}
	return true
}

// CopyNodes returns a copy of objects that shares no memory with them.
func CopyNodes(l []api.Node) []api.Node {
	out := make([]api.Node, len(l))
	for i, n := range l {
		out[i] = api.Node{Tag: n.Tag, Value: bytes.Clone(n.Value), Kids: CopyNodes(n.Kids)}
	}
	return out
}

// ScribbleNodes overwrites all that belongs to objects, up to the capacities of their slices.
func ScribbleNodes(l []api.Node) {
	for i := range l {
		ScribbleNodes(l[i].Kids)
		Scribble(l[i].Value)
	}
	l = l[:cap(l)]
	for i := range l {
		l[i] = api.Node{Tag: -9}
	}
}
