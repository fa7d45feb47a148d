package reading

import (
	"iter"

	"traveldoc/api"
	"traveldoc/zone"
)

// distinct returns the bytes of a string in ascending order, each of them once.
func distinct(s string) []byte {
	var occurs [256]bool
	for i := range len(s) {
		occurs[s[i]] = true
	}
	var out []byte
	for c := range len(occurs) {
		if occurs[c] {
			out = append(out, byte(c))
		}
	}
	return out
}

// choices yields the lines of each choice of a reading that is complete, in ascending order.
func choices(l [][]string) iter.Seq[[]string] {
	return func(yield func([]string) bool) {
		options := make([][][]byte, len(l))
		rows := make([][]byte, len(l))
		for i := range len(l) {
			options[i] = make([][]byte, len(l[i]))
			rows[i] = make([]byte, len(l[i]))
			for j := range len(l[i]) {
				options[i][j] = distinct(l[i][j])
			}
		}
		// choose goes through what the places from this one on may have, and reports whether more is wanted. The first places change last, so that the lines ascend.
		var choose func(line, at int) bool
		choose = func(line, at int) bool {
			if line == len(rows) {
				return yield(textsOf(rows))
			}
			if at == len(rows[line]) {
				return choose(line+1, 0)
			}
			for _, c := range options[line][at] {
				rows[line][at] = c
				if !choose(line, at+1) {
					return false
				}
			}
			return true
		}
		choose(0, 0)
	}
}

// readings yields the choices that are the lines of a zone, in ascending order.
func readings(l [][]string) iter.Seq[[]string] {
	return func(yield func([]string) bool) {
		for lines := range choices(l) {
			if _, e := zone.Parse(lines); e == api.OK && !yield(lines) {
				return
			}
		}
	}
}

// textsOf returns rows of bytes as lines.
func textsOf(rows [][]byte) []string {
	lines := make([]string, len(rows))
	for i := range rows {
		lines[i] = string(rows[i])
	}
	return lines
}
