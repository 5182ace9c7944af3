package repo

import (
	"slices"

	"variorum/api"
	"variorum/object"
	"variorum/order"
	"variorum/pack"
	"variorum/refs"
	"variorum/state"
	"variorum/vault"
)

// call is a call of a repository under way. What it asks of the disk more than once it reads but once; no later call leans on that, as the disk may be another one by then.
type call struct {
	*Repo
	refs   refs.Refs
	roots  []api.Id
	met    map[api.Id]api.Object // by their ids; zero: none is there
	knowns map[api.Id]int        // the roots' pasts; nil, till they are asked for
}

// attempt does what a call asks. What gives up does so by a panic with the answer.
func (r *Repo) attempt(do func(c *call) api.Answer) (a api.Answer) {
	if r == nil {
		return api.Answer{Error: api.ErrArg}
	}
	defer func() {
		if why := recover(); why != nil {
			a = why.(api.Answer)
		}
	}()
	now := r.journal.Refs()
	return do(&call{Repo: r, refs: now, roots: refs.Roots(now), met: map[api.Id]api.Object{}})
}

// must gives up where something is not so.
func must(so bool, e api.Errno) {
	if !so {
		panic(api.Answer{Error: e})
	}
}

// object is the one that has an id; a zero one, if none is there.
func (c *call) object(id api.Id) api.Object {
	o, ok := c.met[id]
	if !ok {
		b, e := c.vault.Get(id)
		must(e == api.OK || e == api.ErrMissing, e)
		o, _ = object.Decode(b) // zero, if it is none
		c.met[id] = o
	}
	return o
}

// past is commits and all of which they come, each behind its parents. What is no commit, or is not there, has none.
func (c *call) past(ids ...api.Id) []api.Id {
	const opened, done = 1, 2
	stages := map[api.Id]int{}
	var past []api.Id
	for left := slices.Clone(ids); len(left) > 0; {
		id := left[len(left)-1]
		if stages[id] == 0 { // its parents first
			stages[id] = opened
			left = append(left, c.object(id).Commit.Parents...)
			continue
		}
		if stages[id] == opened {
			stages[id] = done
			past = append(past, id)
		}
		left = left[:len(left)-1]
	}
	return past
}

// known: is a commit in a root's past?
func (c *call) known(id api.Id) bool {
	if _, ok := order.Find(c.roots, id); ok {
		return true
	}
	if c.knowns == nil {
		c.knowns = numbered(c.past(c.roots...))
	}
	_, ok := c.knowns[id]
	return ok
}

// numbered tells where in a list each id stands.
func numbered(ids []api.Id) map[api.Id]int {
	places := map[api.Id]int{}
	for place, id := range ids {
		places[id] = place
	}
	return places
}

// mustKnow gives up, unless all of some commits are known.
func (c *call) mustKnow(ids []api.Id) {
	for _, id := range ids {
		must(c.known(id), api.ErrMissing)
	}
}

// changes is the set of all that the commits of a past have done. It gives up, unless they are commits.
func (c *call) changes(past []api.Id) []api.Id {
	var changes []api.Id
	for _, id := range past {
		o := c.object(id)
		must(o.Kind == api.KCommit, api.ErrForm)
		changes = append(changes, o.Commit.Changes...)
	}
	return order.Set(changes)
}

// reach is the set of what commits that are whole reach.
func (c *call) reach(ids ...api.Id) []api.Id {
	past := c.past(ids...)
	return order.Union(past, c.changes(past))
}

// state is what some commits come to together. It gives up where all of them are not as a whole one is.
func (c *call) state(ids ...api.Id) *state.State {
	s := state.New()
	c.add(s, c.changes(c.past(ids...)))
	return s
}

// add adds changes to a state, the earliest first. It gives up where one is none, or does not fit.
func (c *call) add(s *state.State, ids []api.Id) {
	var keys []api.Key
	for _, id := range ids {
		o := c.object(id)
		must(o.Kind == api.KChange, api.ErrForm)
		keys = append(keys, api.Key{Time: o.Change.Time, Change: id})
	}
	for _, place := range order.SortKeys(keys) {
		id := ids[place]
		must(s.Add(id, c.object(id).Change) == api.OK, api.ErrForm)
	}
}

// mustWhole gives up, unless each of some commits is whole. If all their changes fit together, those of one of them do, too, where none is missing on which they hang: so one state will do for all.
func (c *call) mustWhole(ids []api.Id) {
	ids = order.Set(ids)
	c.state(ids...)
	for _, id := range ids {
		if len(ids) == 1 {
			return
		}
		changes := c.changes(c.past(id))
		there := numbered(changes)
		for _, change := range changes {
			for _, dep := range c.object(change).Change.Deps {
				_, ok := there[dep]
				must(ok, api.ErrForm)
			}
		}
	}
}

// put puts an object's bytes.
func (c *call) put(b []byte) api.Id {
	id, other, e := c.vault.Put(b)
	mustPut(e, id, b, other)
	return id
}

// mustPut gives up where the disk has an error, or something has the id of what was to be put; that is told with both.
func mustPut(e api.Errno, id api.Id, clash ...[]byte) {
	if e == api.ErrCollision {
		a := api.Answer{Error: e, Id: id}
		for _, b := range clash {
			a.Lines = append(a.Lines, string(b))
		}
		panic(a)
	}
	must(e == api.OK, e)
}

// parts is a set of objects on their way into one pack, upon bases by choices.
func (c *call) parts(set []api.Id, choices []int) []pack.Part {
	var parts []pack.Part
	var sizes []int
	for _, id := range set {
		b, e := c.vault.Get(id)
		must(e == api.OK, e)
		parts, sizes = append(parts, pack.Part{Bytes: b, Base: -1}), append(sizes, len(b))
	}
	packs, bases := vault.Plan(sizes, choices)
	first := 0 // of those that would be in the same pack
	for i := range parts {
		if packs[i] != packs[first] {
			first = i
		}
		if bases[i] >= 0 {
			parts[i].Base = first + bases[i]
		}
	}
	return parts
}
