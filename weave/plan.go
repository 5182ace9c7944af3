package weave

import (
	"cmp"
	"slices"

	"variorum/api"
	"variorum/myers"
	"variorum/path"
	"variorum/state"
)

// plan is what a state is to come to.
type plan struct {
	state *state.State
	gone  []string // the paths of the documents that are no file's, in order
	goals []goal   // in order of the files' paths
}

// goal is a file, and what is made of its document's text.
type goal struct {
	file, document api.File // without a document this has neither path nor text
	edits          []api.Edit
}

// isNew: has the file no document? (No path is empty.)
func (g goal) isNew() bool { return g.document.Path == "" }

// newPlan finds the files' documents. It gives up where the files or the moves may not be.
func newPlan(s *state.State, files []api.File, moves [][2]string) *plan {
	e := path.Tree(files)
	must(e == api.OK, e)
	files = slices.Clone(files)
	slices.SortFunc(files, func(a, b api.File) int { return cmp.Compare(a.Path, b.Path) })
	documents := s.Files()
	there, wanted := places(documents), places(files)
	mustMove(moves, there, wanted)
	found := places(documents) // by a file's path its document's place
	for _, move := range moves {
		delete(found, move[0])
	}
	for _, move := range moves { // all have left by now, so none takes the place of one that moves on
		found[move[1]] = there[move[0]]
	}
	p := &plan{state: s}
	kept := make([]bool, len(documents))
	for _, file := range files {
		g := goal{file: file}
		if place, ok := found[file.Path]; ok {
			g.document, kept[place] = documents[place], true
		}
		p.goals = append(p.goals, g)
	}
	for place, document := range documents {
		if !kept[place] {
			p.gone = append(p.gone, document.Path)
		}
	}
	return p
}

// places tells where in a list each path stands.
func places(files []api.File) map[string]int {
	at := map[string]int{}
	for place, file := range files {
		at[file.Path] = place
	}
	return at
}

// mustMove gives up at the first move that may not be.
func mustMove(moves [][2]string, there, wanted map[string]int) {
	for i, move := range moves {
		for _, ahead := range moves[:i] {
			must(ahead[0] != move[0] && ahead[1] != move[1], api.ErrThere)
		}
		_, from := there[move[0]]
		_, to := wanted[move[1]]
		must(from && to, api.ErrNone)
	}
}

// diff finds the edits. It gives up where a document is too long.
func (p *plan) diff() {
	for i, g := range p.goals {
		edits, e := myers.Diff(g.document.Bytes, g.file.Bytes)
		must(e == api.OK, e)
		p.goals[i].edits = edits
	}
}
