package desk

import (
	"slices"
	"strings"

	"variorum/api"
)

// place is what stands at a desk for a node: its tree, in order of paths, and the moves.
type place struct {
	files []api.File
	moves [][2]string
}

// place is the one of the node that is meant.
func (d *desk) place() *place { return &d.places[d.node] }

// find tells where a path stands, or would.
func (p *place) find(path string) (int, bool) {
	return slices.BinarySearchFunc(p.files, path, func(f api.File, path string) int {
		return strings.Compare(f.Path, path)
	})
}

func (p *place) put(path, text string) {
	at, there := p.find(path)
	if !there {
		p.files = slices.Insert(p.files, at, api.File{Path: path})
	}
	p.files[at].Bytes = text
}

// take takes what stands at a path away.
func (p *place) take(path string) (text string, there bool) {
	at, there := p.find(path)
	if !there {
		return "", false
	}
	text = p.files[at].Bytes
	p.files = slices.Delete(p.files, at, at+1)
	return text, true
}

// move moves what stands at a path. Where nothing does, nothing comes of it, but it is a move all the same.
func (p *place) move(from, to string) {
	if text, there := p.take(from); there {
		p.put(to, text)
	}
	p.moves = append(p.moves, [2]string{from, to})
}
