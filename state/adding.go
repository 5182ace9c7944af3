package state

import (
	"sort"

	"variorum/api"
	"variorum/object"
	"variorum/register"
)

// entry is a change of a state, and what it has made.
type entry struct {
	change api.Change
	spans  []span // without gaps, from the index 0 on
}

// span is the indexes that one operation has made: elements of a document, or, with the zero key, a document.
type span struct {
	end int // where the next one begins
	doc api.Key
}

// adding is a change, which may be (layer 8), on its way into a state.
type adding struct {
	*State
	id     api.Id
	change api.Change
}

// fits tells why the change does not fit, if so. Whatever is not as it should be gives up by a panic.
func (a adding) fits() (e api.Errno) {
	defer func() {
		if why := recover(); why != nil {
			e = why.(api.Errno)
		}
	}()
	for _, id := range a.change.Deps {
		must(a.Has(id), api.ErrMissing)
	}
	for _, id := range a.change.Deps {
		must(a.changes[id].change.Time < a.change.Time, api.ErrTime)
	}
	for _, op := range a.change.Ops {
		a.mustUse(op)
	}
	return api.OK
}

// must gives up where something is not so.
func must(so bool, e api.Errno) {
	if !so {
		panic(e)
	}
}

// mustUse gives up where an operation's refs to other changes do not name what they should. Those to the change itself do, as it may be.
func (a adding) mustUse(op api.Op) {
	if !isOwn(op.Doc) {
		_, there := a.documents[a.key(op.Doc)]
		must(there, api.ErrUse)
	}
	switch {
	case isOwn(op.At): // or the operation has none
	case op.Kind == api.ODelete:
		a.mustHave(op, op.Count)
	case op.At != op.Doc:
		a.mustHave(op, 1)
	}
}

// mustHave gives up where the change that At names has not made so many elements of Doc, from At on.
func (a adding) mustHave(op api.Op, count int) {
	spans := a.changes[op.At.Change].spans
	at, end, doc := op.At.Index, op.At.Index+count, a.key(op.Doc)
	i := sort.Search(len(spans), func(i int) bool { return spans[i].end > at })
	for at < end {
		must(i < len(spans) && spans[i].doc == doc, api.ErrUse)
		at = spans[i].end
		i++
	}
}

// put puts the change, which fits, into the state. No document refuses what it is asked then.
func (a adding) put() {
	e := entry{change: clone(a.change)}
	next := 0
	for place, op := range a.change.Ops {
		made := a.own(next)
		doc := a.key(op.Doc)
		switch op.Kind {
		case api.OInsert:
			a.documents[doc].elements.Insert(made, a.key(op.At), op.At == op.Doc, op.Text)
		case api.ODelete:
			a.documents[doc].elements.Delete(a.key(op.At), op.Count)
		case api.OCreate:
			a.claim(register.Claim{Key: a.own(place), Doc: made, Kind: op.Kind, Path: op.Path})
			doc = api.Key{}
		case api.ORename, api.ORemove:
			a.claim(register.Claim{Key: a.own(place), Doc: doc, Kind: op.Kind, Path: op.Path})
		}
		if n := object.Size(api.Change{Ops: []api.Op{op}}); n > 0 {
			next += n
			e.spans = append(e.spans, span{next, doc})
		}
	}
	a.changes[a.id] = e
}

// isOwn: is a ref to the change itself?
func isOwn(r api.Ref) bool { return r.Change == api.Id{} }

// key is that of what a ref names.
func (a adding) key(r api.Ref) api.Key {
	if isOwn(r) {
		return a.own(r.Index)
	}
	return api.Key{Time: a.changes[r.Change].change.Time, Change: r.Change, Index: r.Index}
}

// own is the change's own key of an index, or of a place in its operations.
func (a adding) own(index int) api.Key {
	return api.Key{Time: a.change.Time, Change: a.id, Index: index}
}
