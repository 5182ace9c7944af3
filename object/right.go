package object

import (
	"sort"

	"variorum/api"
	"variorum/order"
	"variorum/path"
	"variorum/utf"
)

const maxIndex = 1<<31 - 1 // of what another change has made

// Right: may an object be?
func Right(o api.Object) bool {
	switch o.Kind {
	case api.KChange:
		return rightChange(o.Change) && noCommit(o.Commit)
	case api.KCommit:
		return rightCommit(o.Commit) && noChange(o.Change)
	}
	return false
}

func noChange(c api.Change) bool {
	return c.Time == 0 && len(c.Deps) == 0 && c.Author == "" && len(c.Ops) == 0
}

func noCommit(c api.Commit) bool {
	return len(c.Parents) == 0 && len(c.Changes) == 0 && c.Author == "" && c.Message == "" && c.Stamp == 0
}

func rightCommit(c api.Commit) bool {
	return ids(c.Parents, api.MaxParents) && ids(c.Changes, api.MaxChanges) &&
		path.Author(c.Author) && path.Note(c.Message) && between(c.Stamp, 0, api.MaxTime)
}

// ids: are they a set of at most so many, none of them zero?
func ids(l []api.Id, most int) bool {
	return len(l) <= most && order.IsSet(l) && (len(l) == 0 || l[0] != api.Id{}) // zero would be the first one
}

func between(n, least, most int) bool { return least <= n && n <= most }

func rightChange(c api.Change) bool {
	if !between(c.Time, 1, api.MaxTime) || !ids(c.Deps, api.MaxDeps) || !path.Author(c.Author) || !between(len(c.Ops), 1, api.MaxOps) {
		return false
	}
	m := maker{deps: map[api.Id]int{}}
	for i, id := range c.Deps {
		m.deps[id] = i
	}
	have := kinds()
	for _, op := range c.Ops {
		has, ok := have[op.Kind]
		if !ok || !noMore(op, has) || !m.right(op, has) {
			return false
		}
		m.make(op)
	}
	return true
}

// noMore: is all zero that an operation's kind does not have?
func noMore(op api.Op, has parts) bool {
	op.Kind = 0
	if has.doc {
		op.Doc = api.Ref{}
	}
	if has.at {
		op.At = api.Ref{}
	}
	if has.text {
		op.Text = ""
	}
	if has.count {
		op.Count = 0
	}
	if has.path {
		op.Path = ""
	}
	return op == api.Op{}
}

// span is the indexes that one operation has made: a document's, or those of elements of one.
type span struct {
	from, end int
	document  bool
	doc       api.Ref
}

// maker is what a change's operations so far have made, and the changes that it hangs on.
type maker struct {
	deps  map[api.Id]int
	spans []span // one behind the other, without gaps, none empty
	next  int
}

func (m *maker) make(op api.Op) {
	if n := makes(op); n > 0 {
		m.spans = append(m.spans, span{m.next, m.next + n, op.Kind == api.OCreate, op.Doc})
		m.next += n
	}
}

// right: may an operation's parts be?
func (m *maker) right(op api.Op, has parts) bool {
	switch {
	case has.text && !(between(len(op.Text), 1, api.MaxFile) && text(op.Text)),
		has.count && !between(op.Count, 1, api.MaxFile),
		has.path && !path.Path(op.Path),
		has.doc && !m.document(op.Doc):
		return false
	}
	switch op.Kind {
	case api.OInsert:
		return op.At == op.Doc || m.elements(op.Doc, op.At, 1)
	case api.ODelete:
		return m.elements(op.Doc, op.At, op.Count)
	}
	return true
}

func text(s string) bool {
	_, e := utf.Check(s)
	return e == api.OK
}

// document: does a ref name a document?
func (m *maker) document(r api.Ref) bool {
	if r.Change != (api.Id{}) {
		return m.foreign(r)
	}
	s, ok := m.span(r.Index)
	return ok && s.document
}

// elements: do a ref and those behind it, so many, name elements of a document?
func (m *maker) elements(doc, first api.Ref, count int) bool {
	if first.Change != (api.Id{}) {
		return m.foreign(first)
	}
	if !between(first.Index, 0, m.next-count) {
		return false
	}
	for at := first.Index; at < first.Index+count; {
		s, ok := m.span(at)
		if !ok || s.document || s.doc != doc {
			return false
		}
		at = s.end
	}
	return true
}

// foreign: does a ref name what a change may have made that this one hangs on?
func (m *maker) foreign(r api.Ref) bool {
	_, ok := m.deps[r.Change]
	return ok && between(r.Index, 0, maxIndex)
}

// span is the one that an index is in.
func (m *maker) span(index int) (span, bool) {
	if !between(index, 0, m.next-1) {
		return span{}, false
	}
	i := sort.Search(len(m.spans), func(i int) bool { return m.spans[i].end > index })
	return m.spans[i], true
}
