package weave

import (
	"variorum/api"
	"variorum/object"
)

// ops is the operations that do what is planned. It gives up where they are too many.
func (p *plan) ops() []api.Op {
	var ops []api.Op
	next := 0 // the index that the next operation makes first
	put := func(op api.Op) {
		must(len(ops) < api.MaxOps, api.ErrFull)
		ops = append(ops, op)
		next += object.Size(api.Change{Ops: []api.Op{op}})
	}
	for _, path := range p.gone {
		put(api.Op{Kind: api.ORemove, Doc: p.doc(path)})
	}
	for _, g := range p.goals {
		doc := api.Ref{Index: next}
		if g.isNew() {
			put(api.Op{Kind: api.OCreate, Path: g.file.Path})
		} else {
			doc = p.doc(g.document.Path)
			if wants, _ := p.state.Wants(g.document.Path); wants != g.file.Path {
				put(api.Op{Kind: api.ORename, Doc: doc, Path: g.file.Path})
			}
		}
		p.edit(g, doc, put)
	}
	return ops
}

// doc is the document that has a path; there is one.
func (p *plan) doc(path string) api.Ref {
	doc, _ := p.state.Doc(path)
	return doc
}

// edit puts down what makes a document's text the file's.
func (p *plan) edit(g goal, doc api.Ref, put func(op api.Op)) {
	place := 0 // of the first live element that no edit has met so far
	for _, edit := range g.edits {
		from := place + edit.Keep
		place = from + edit.Drop
		p.drop(g.document.Path, from, place, api.Op{Kind: api.ODelete, Doc: doc}, put)
		if edit.Add == "" {
			continue
		}
		at := doc
		if from > 0 {
			at, _ = p.state.At(g.document.Path, from-1)
		}
		put(api.Op{Kind: api.OInsert, Doc: doc, At: at, Text: edit.Add})
	}
}

// drop puts down what drops the live elements from a place on, ahead of another one: row by row, each by an operation like the one that is handed in.
func (p *plan) drop(path string, from, end int, op api.Op, put func(op api.Op)) {
	flush := func() {
		if op.Count > 0 {
			put(op)
		}
		op.Count = 0
	}
	for place := from; place < end; place++ {
		at, _ := p.state.At(path, place)
		if op.Count == 0 || at != (api.Ref{Change: op.At.Change, Index: op.At.Index + op.Count}) {
			flush()
			op.At = at
		}
		op.Count++
	}
	flush()
}
