package hunk

import (
	"maps"
	"slices"
	"strconv"
	"strings"

	"variorum/api"
)

// Lines tells what is unlike between files.
func Lines(a, b []api.File) ([]string, api.Errno) {
	one, other := byPath(a), byPath(b)
	paths := slices.Concat(slices.Collect(maps.Keys(one)), slices.Collect(maps.Keys(other)))
	slices.Sort(paths)
	var l []string
	for _, path := range slices.Compact(paths) {
		was, had := one[path]
		is, has := other[path]
		told := "file " + path
		switch {
		case !had:
			told += " added"
		case !has:
			told += " gone"
		case was.Bytes == is.Bytes:
			continue
		}
		hunks, e := Hunks(was.Bytes, is.Bytes)
		if e != api.OK {
			return nil, e
		}
		l = append(l, told)
		for _, h := range hunks {
			l = append(l, h.tell()...)
		}
	}
	return l, api.OK
}

// byPath finds files by their paths: of several with one path the first.
func byPath(files []api.File) map[string]api.File {
	there := map[string]api.File{}
	for _, file := range files {
		if _, ok := there[file.Path]; !ok {
			there[file.Path] = file
		}
	}
	return there
}

// tell is a hunk as lines without a byte 10 at their ends.
func (h Hunk) tell() []string {
	l := []string{"@ " + strconv.Itoa(h.From) + " " + strconv.Itoa(h.To)}
	for _, line := range h.Lines {
		whole, ended := strings.CutSuffix(line, newline)
		if !ended {
			whole += `\`
		}
		l = append(l, whole)
	}
	return l
}
