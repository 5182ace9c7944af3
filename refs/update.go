package refs

import (
	"slices"
	"sort"

	"variorum/api"
	"variorum/path"
)

// act does an update to refs; where it can't, it says why, and the refs are of no use any more.
type act func(r *Refs, u api.Update) api.Errno

// acts tells what an update of each kind does.
func acts() map[uint8]act {
	return map[uint8]act{api.RBranch: toBranch, api.RTag: toTag, api.RHead: toHead}
}

func toBranch(r *Refs, u api.Update) (e api.Errno) {
	r.Branches, e = move(r.Branches, u)
	if e == api.OK && zero(u.New) && u.Name == r.Head {
		return api.ErrHead
	}
	return e
}

func toTag(r *Refs, u api.Update) (e api.Errno) {
	if !zero(u.Old) && !zero(u.New) { // a tag stays where it is
		return api.ErrArg
	}
	r.Tags, e = move(r.Tags, u)
	return e
}

func toHead(r *Refs, u api.Update) api.Errno {
	switch {
	case !zero(u.Old), zero(u.New) == (u.Name == ""): // to a branch, or to an id
		return api.ErrArg
	case u.Name != "" && !path.Name(u.Name):
		return api.ErrName
	}
	r.Head, r.At = u.Name, u.New
	return api.OK
}

// move does an update to names and their ids.
func move(l []Named, u api.Update) ([]Named, api.Errno) {
	if !path.Name(u.Name) {
		return nil, api.ErrName
	}
	i, there := find(l, u.Name)
	var old api.Id
	if there {
		old = l[i].Id
	}
	switch {
	case old != u.Old:
		return nil, api.ErrMoved
	case there && zero(u.New):
		l = slices.Delete(l, i, i+1)
	case there:
		l[i].Id = u.New
	case zero(u.New):
	case len(l) == api.MaxRefs:
		return nil, api.ErrFull
	default:
		l = slices.Insert(l, i, Named{u.Name, u.New})
	}
	return l, api.OK
}

// find tells where a name stands among others, which are in order, or where it would.
func find(l []Named, name string) (int, bool) {
	i := sort.Search(len(l), func(i int) bool { return l[i].Name >= name })
	return i, i < len(l) && l[i].Name == name
}
