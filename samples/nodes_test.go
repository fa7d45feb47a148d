package samples

import (
	"bytes"
	"slices"
	"testing"

	"traveldoc/api"
)

func trees() []api.Node {
	return []api.Node{
		{Tag: 4, Value: []byte{1, 2}},
		{Tag: 0x30, Kids: []api.Node{{Tag: 2}, {Tag: 0x31, Kids: []api.Node{{Tag: 5, Value: []byte{9}}}}}},
	}
}

func TestSameNodes(t *testing.T) {
	if !SameNodes(trees(), trees()) || !SameNodes(nil, []api.Node{}) {
		t.Error("the same objects differ")
	}
	if !SameNodes([]api.Node{{Tag: 4, Value: []byte{}, Kids: []api.Node{}}}, []api.Node{{Tag: 4}}) {
		t.Error("an empty slice is another one than nil")
	}
	for _, change := range []func(l []api.Node){
		func(l []api.Node) { l[0].Tag = 5 },
		func(l []api.Node) { l[0].Value = []byte{1} },
		func(l []api.Node) { l[1].Kids[1].Kids[0].Value[0]++ },
		func(l []api.Node) { l[1].Kids[1].Kids = nil },
		func(l []api.Node) { l[1].Kids[0], l[1].Kids[1] = l[1].Kids[1], l[1].Kids[0] },
	} {
		l := trees()
		if change(l); SameNodes(l, trees()) || SameNodes(trees(), l) {
			t.Error("other objects are the same", l)
		}
	}
	if SameNodes(trees(), trees()[:1]) {
		t.Error("fewer objects are the same")
	}
}

func TestCopyNodes(t *testing.T) {
	l := trees()
	c := CopyNodes(l)
	if !SameNodes(l, c) {
		t.Fatal(c)
	}
	if ScribbleNodes(c); !SameNodes(l, trees()) {
		t.Error("a copy shares memory")
	}
}

func TestScribbleNodesReachesTheCapacity(t *testing.T) {
	room := []byte{0, 1}
	l := []api.Node{{Tag: 0x30, Kids: []api.Node{{Tag: 2, Value: room[:1]}}}, {Tag: 4}}
	kids := l[0].Kids
	ScribbleNodes(l[:1])
	if !bytes.Equal(room, []byte{255, 254}) || kids[0].Tag != -9 || l[0].Tag != -9 || l[1].Tag != -9 {
		t.Error(room, kids, l)
	}
}

func TestTextOfNodes(t *testing.T) {
	if got := TextOfNodes(trees()); got != "4[0102]()30[](2[]()31[](5[09]()))" {
		t.Error(got)
	}
	if got := TextOfNodes([]api.Node{{Tag: -10, Value: []byte{0xff}, Kids: []api.Node{{}}}}); got != "-a[ff](0[]())" {
		t.Error(got)
	}
}

func TestSeeNodes(t *testing.T) {
	l := trees()
	var tags []int
	SeeNodes(l, func(n *api.Node) {
		tags = append(tags, n.Tag)
		n.Tag++
	})
	if !slices.Equal(tags, []int{4, 2, 5, 0x31, 0x30}) || TextOfNodes(l) != "5[0102]()31[](3[]()32[](6[09]()))" {
		t.Error(tags, TextOfNodes(l))
	}
}

func TestEachNode(t *testing.T) {
	l := trees()
	var texts []string
	EachNode(l, func(tag int, change func(func(n *api.Node)) []api.Node) {
		texts = append(texts, TextOfNodes(change(func(n *api.Node) {
			if n.Tag != tag {
				t.Error("another object", tag, n.Tag)
			}
			n.Tag = 0
		})))
	})
	if !slices.Equal(texts, []string{
		"0[0102]()30[](2[]()31[](5[09]()))", "4[0102]()30[](0[]()31[](5[09]()))", "4[0102]()30[](2[]()31[](0[09]()))",
		"4[0102]()30[](2[]()0[](5[09]()))", "4[0102]()0[](2[]()31[](5[09]()))",
	}) {
		t.Error(texts)
	}
	if !SameNodes(l, trees()) {
		t.Error("the objects are others now")
	}
}
