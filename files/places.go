package files

import (
	"slices"

	"traveldoc/api"
)

// The values of a place that are no index.
const (
	inRoot = -1
	noFile = -1
)

// find selects the file that is looked for, with the application of a place.
func find(f api.Files, p api.Place, isWanted func(x api.File) bool) (api.Place, api.Errno) {
	l, e := filesAt(f, p)
	if e != api.OK {
		return api.Place{}, e
	}
	file := slices.IndexFunc(l, isWanted)
	if file < 0 {
		return api.Place{}, api.ErrMissing
	}
	return api.Place{App: p.App, File: file}, api.OK
}

// selected returns the file of a place. It shares memory with the files.
func selected(f api.Files, p api.Place) (api.File, api.Errno) {
	l, e := filesAt(f, p)
	if e != api.OK {
		return api.File{}, e
	}
	if p.File == noFile {
		return api.File{}, api.ErrMissing
	}
	return l[p.File], api.OK
}

// filesAt returns the files of the root or the application of a place, or ErrInvalid if the files or the place are not valid.
func filesAt(f api.Files, p api.Place) ([]api.File, api.Errno) {
	if Valid(f) != api.OK || p.App < inRoot || p.App >= len(f.Apps) {
		return nil, api.ErrInvalid
	}
	l := f.Root
	if p.App != inRoot {
		l = f.Apps[p.App].Files
	}
	if p.File < noFile || p.File >= len(l) {
		return nil, api.ErrInvalid
	}
	return l, api.OK
}
