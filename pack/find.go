package pack

import (
	"variorum/api"
	"variorum/delta"
	"variorum/order"
	"variorum/sha"
)

// finder finds what bytes are told of each id. It goes from a base to all that are upon it, so that beside those that are kept no more than one way's bytes are held at once, however many a forged pack tells.
type finder struct {
	listing
	upon  map[api.Id][]api.Id // whose base an id is
	last  api.Id              // the one behind which no bytes are needed
	found map[api.Id]object
	wrong map[api.Id]struct{} // those with a delta on their way that is none
}

// find is the objects of a pack, by their ids; or what is wrong with the first id.
func (l listing) find() (map[api.Id]object, api.Errno) {
	f := &finder{l, map[api.Id][]api.Id{}, l.last(), map[api.Id]object{}, map[api.Id]struct{}{}}
	for _, id := range l.ids {
		if o := l.told[id]; o.isUpon {
			f.upon[o.base] = append(f.upon[o.base], id)
		}
	}
	for _, id := range l.ids {
		if o := l.told[id]; !o.isUpon {
			f.tell(id, o.bytes, 0)
		}
	}
	total := 0
	for _, id := range l.ids {
		o, e := f.right(id)
		if e != api.OK {
			return nil, e
		}
		total += len(o.bytes)
		if total > api.MaxTotal {
			return nil, api.ErrLong
		}
	}
	return f.found, api.OK
}

// last is an id with which the pack is too long, if nothing is wrong ahead of it or with it; else the last one.
func (l listing) last() (id api.Id) {
	total := 0
	for _, id = range l.ids {
		total += l.told[id].size()
		if total > api.MaxTotal {
			break
		}
	}
	return id
}

// size is how many bytes an object is told to have: more than MaxTotal is told as one more than that.
func (o telling) size() int {
	n := len(o.bytes)
	if o.isUpon {
		_, n, _ = delta.Sizes(o.bytes)
	}
	return min(n, api.MaxTotal+1)
}

// tell puts down an id's bytes, and those of all that are upon it, but for what is too deep.
func (f *finder) tell(id api.Id, b []byte, depth int) {
	o := object{depth: depth}
	if order.Compare(id, f.last) <= 0 {
		o.bytes = b
	}
	f.found[id] = o
	if depth == api.MaxChain {
		return
	}
	_, wrong := f.wrong[id]
	for _, next := range f.upon[id] {
		told, e := delta.Apply(b, f.told[next].bytes)
		if wrong || e != api.OK {
			f.wrong[next] = struct{}{}
		}
		f.tell(next, told, depth+1)
	}
}

// right is an id's object, or what is wrong with it. What was not found is too deep, or it comes round to itself.
func (f *finder) right(id api.Id) (object, api.Errno) {
	o, met := f.found[id]
	_, wrong := f.wrong[id]
	switch {
	case !met:
		return object{}, api.ErrDeep
	case wrong:
		return object{}, api.ErrForm
	case sha.Sum(o.bytes) != id:
		return object{}, api.ErrSum
	}
	return o, api.OK
}
