package files

import (
	"bytes"
	"math/rand"
	"slices"
	"testing"

	"traveldoc/api"
	"traveldoc/samples"
)

// R2

// roomyFiles returns copies whose slices have room behind them that is not empty.
func roomyFiles(l []api.File) []api.File {
	out := copyOfFiles(l)
	for i := range out {
		out[i].Content = samples.Roomy(out[i].Content)
	}
	return append(out, fileOf(77), fileOf(78))[:len(l)]
}

func roomy(f api.Files) api.Files {
	out := api.Files{Root: roomyFiles(f.Root)}
	for _, a := range f.Apps {
		out.Apps = append(out.Apps, api.App{Name: samples.Roomy(a.Name), Files: roomyFiles(a.Files)})
	}
	out.Apps = append(out.Apps, appOf("behind", 2))[:len(f.Apps)]
	return out
}

// whole returns files up to the capacities of their slices.
func whole(f api.Files) api.Files {
	files := func(l []api.File) []api.File {
		l = slices.Clone(l[:cap(l)])
		for i := range l {
			l[i].Content = l[i].Content[:cap(l[i].Content)]
		}
		return l
	}
	f.Root, f.Apps = files(f.Root), slices.Clone(f.Apps[:cap(f.Apps)])
	for i, a := range f.Apps {
		f.Apps[i] = api.App{Name: a.Name[:cap(a.Name)], Files: files(a.Files)}
	}
	return f
}

// What was given stays as it was, with the room behind it, also where there is an error.
func TestArgumentsStayAsTheyWere(t *testing.T) {
	r := rand.New(rand.NewSource(6))
	given := append(several(), invalid()...)
	for range 200 {
		given = append(given, random(r))
	}
	for _, plain := range given {
		f, name := roomy(plain), samples.Roomy([]byte{0})
		before, nameBefore := textOf(whole(f)), bytes.Clone(name[:cap(name)])
		Valid(f)
		Name(f, name)
		for _, p := range places(plain) {
			ID(f, p, 1)
			Short(f, p, 1)
			Access(f, p)
			Read(f, p, open, 0, 4096)
			Read(f, p, open, 2, 1)
		}
		if after := textOf(whole(f)); after != before || !bytes.Equal(name[:cap(name)], nameBefore) {
			t.Errorf("%s is %s", before, after)
		}
	}
}

// What is read shares no memory with the content, nor with what was read before.
func TestWhatIsReadIsNew(t *testing.T) {
	for _, plain := range several() {
		f := roomy(plain)
		before := textOf(whole(f))
		for _, p := range places(plain) {
			for _, x := range [][2]int{{0, 4096}, {0, 1}, {1, 1}, {0, 3}} {
				data, _, e := Read(f, p, open, x[0], x[1])
				if e != api.OK {
					continue
				}
				want := bytes.Clone(data)
				again, _, _ := Read(f, p, open, x[0], x[1])
				samples.Scribble(data)
				if !bytes.Equal(again, want) || textOf(whole(f)) != before {
					t.Errorf("%v, %v: shared memory", p, x)
				}
			}
		}
	}
	// Nor does it turn with the content.
	f := passport()
	data, _, _ := Read(f, first, open, 0, 20)
	samples.Scribble(f.Root[0].Content)
	if !bytes.Equal(data, samples.Bytes(20)) {
		t.Errorf("%x", data)
	}
}

// Results depend on the arguments only (R6): the capacities, nil or empty slices, and earlier calls are no matter.
func TestResultsDependOnTheArgumentsOnly(t *testing.T) {
	for _, f := range append(several(), invalid()...) {
		want := Valid(f)
		if Valid(roomy(f)) != want || Valid(copyOf(f)) != want || Valid(empty(f)) != want {
			t.Error(textOf(f))
		}
		for _, p := range places(f) {
			data, end, e := Read(f, p, open, 0, 9)
			for _, other := range []api.Files{roomy(f), empty(f), f} {
				expectRead(t, other, p, open, 0, 9, data, end, e)
			}
		}
	}
}

// empty returns a copy in which no slice is nil (R3).
func empty(f api.Files) api.Files {
	files := func(l []api.File) []api.File {
		out := []api.File{}
		for _, x := range l {
			x.Content = append([]byte{}, x.Content...)
			out = append(out, x)
		}
		return out
	}
	out := api.Files{Root: files(f.Root), Apps: []api.App{}}
	for _, a := range f.Apps {
		out.Apps = append(out.Apps, api.App{Name: append([]byte{}, a.Name...), Files: files(a.Files)})
	}
	return out
}
