package scan

import (
	"cmp"
	"slices"

	"variorum/api"
	"variorum/myers"
	"variorum/score"
)

// look is what has been found of documents and files: rows, and those of which there is no row yet.
type look struct {
	gone, added []api.File // both in order of paths
	rows        []Row
}

// newLook finds the rows of what has stayed where it was.
func newLook(documents, files []api.File) *look {
	l := &look{gone: without(documents, files), added: without(files, documents)}
	there := byPath(documents)
	for _, file := range files {
		document, ok := there[file.Path]
		if ok && document.Bytes != file.Bytes {
			l.rows = append(l.rows, Row{Kind: SEdit, Path: file.Path, Cost: cost(document.Bytes, file.Bytes)})
		}
	}
	return l
}

// guess finds moves, by a number that tells how like two texts are.
func (l *look) guess(like func(a, b string) float64) {
	const least = 0.5
	scores := make([][]float64, len(l.gone))
	for row, document := range l.gone {
		for _, file := range l.added {
			scores[row] = append(scores[row], like(document.Bytes, file.Bytes))
		}
	}
	var from, to []api.File
	for _, pair := range score.Match(scores, least) {
		document, file := l.gone[pair[0]], l.added[pair[1]]
		from, to = append(from, document), append(to, file)
		l.rows = append(l.rows, Row{SMove, file.Path, document.Path, cost(document.Bytes, file.Bytes)})
	}
	l.gone, l.added = without(l.gone, from), without(l.added, to)
}

// all is all rows, those of what is left among them.
func (l *look) all() []Row {
	for _, file := range l.added {
		l.rows = append(l.rows, Row{Kind: SAdd, Path: file.Path, Cost: runes(file.Bytes)})
	}
	for _, document := range l.gone {
		l.rows = append(l.rows, Row{Kind: SGone, Path: document.Path, Cost: runes(document.Bytes)})
	}
	slices.SortFunc(l.rows, func(a, b Row) int {
		return cmp.Or(cmp.Compare(a.Path, b.Path), cmp.Compare(a.Kind, b.Kind))
	})
	return l.rows
}

// without is those files, in order of paths, whose paths are none of some others'.
func without(files, others []api.File) []api.File {
	there := byPath(others)
	var left []api.File
	for _, file := range files {
		if _, ok := there[file.Path]; !ok {
			left = append(left, file)
		}
	}
	slices.SortFunc(left, func(a, b api.File) int { return cmp.Compare(a.Path, b.Path) })
	return left
}

// byPath finds files by their paths.
func byPath(files []api.File) map[string]api.File {
	there := map[string]api.File{}
	for _, file := range files {
		there[file.Path] = file
	}
	return there
}

// cost is that of the edits between two texts.
func cost(a, b string) int {
	edits, _ := myers.Diff(a, b) // neither is too long
	return myers.Cost(edits)
}
