package repo

import (
	"slices"

	"variorum/api"
	"variorum/hunk"
	"variorum/object"
	"variorum/order"
	"variorum/path"
	"variorum/refs"
	"variorum/scan"
	"variorum/sha"
	"variorum/state"
	"variorum/weave"
)

// commands tells what a command of each kind does.
func commands() map[uint8]func(c *call, asked api.Command) api.Answer {
	return map[uint8]func(c *call, asked api.Command) api.Answer{
		api.CCommit:   (*call).commit,
		api.CCheckout: (*call).checkout,
		api.CBranch:   (*call).branch,
		api.CTag:      (*call).tag,
		api.CDrop:     (*call).drop,
		api.CUntag:    (*call).untag,
		api.CSwitch:   (*call).switchTo,
		api.CMerge:    (*call).merge,
		api.CPick:     (*call).pick,
		api.CLog:      (*call).log,
		api.CBlame:    (*call).blame,
		api.CReflog:   (*call).reflog,
		api.CStatus:   (*call).status,
		api.CDiff:     (*call).diff,
		api.CRefs:     (*call).tellRefs,
		api.CGc:       (*call).gc,
		api.CRepack:   (*call).repack,
	}
}

// at is the commit that a name is at.
func (c *call) at(name string) api.Id {
	id, e := refs.Look(c.refs, name)
	must(e == api.OK, api.ErrNone)
	must(c.known(id), api.ErrMissing)
	return id
}

// whole is the commit that a name is at, and its state. It gives up, unless it is whole.
func (c *call) whole(name string) (api.Id, *state.State) {
	id := c.at(name)
	return id, c.state(id)
}

// head is the commits on which one that is made at the head is put: the one that this is at, or none.
func (c *call) head() []api.Id {
	if id, e := refs.Look(c.refs, ""); e == api.OK {
		return []api.Id{id}
	}
	return nil
}

// update does updates to the refs.
func (c *call) update(note string, l ...api.Update) {
	e := c.journal.Commit(l, note)
	must(e == api.OK, e)
}

// move moves the head.
func (c *call) move(id api.Id, note string) {
	if c.refs.Head == "" {
		c.update(note, api.Update{Kind: api.RHead, New: id})
		return
	}
	old, _ := refs.Look(c.refs, "") // zero, if the branch is not there
	c.update(note, api.Update{Kind: api.RBranch, Name: c.refs.Head, Old: old, New: id})
}

// mustStand gives up where what is asked can't stand in a commit.
func mustStand(asked api.Command) {
	must(path.Note(asked.Note) && 0 <= asked.Stamp && asked.Stamp <= api.MaxTime, api.ErrArg)
}

// mustSign does so where the author can't, either.
func mustSign(asked api.Command) {
	mustStand(asked)
	must(path.Author(asked.Author), api.ErrName)
}

// encode puts an object.
func (c *call) encode(o api.Object) api.Id {
	b, e := object.Encode(o)
	must(e == api.OK, e)
	return c.put(b)
}

// record puts a commit, and the head moves to it.
func (c *call) record(asked api.Command, parents, changes []api.Id) api.Answer {
	id := c.encode(api.Object{Kind: api.KCommit, Commit: api.Commit{
		Parents: order.Set(parents),
		Changes: order.Set(changes),
		Author:  asked.Author,
		Message: asked.Note,
		Stamp:   asked.Stamp,
	}})
	c.move(id, asked.Note)
	return api.Answer{Id: id}
}

func (c *call) commit(asked api.Command) api.Answer {
	mustStand(asked)
	change, e := weave.Import(c.state(c.head()...), asked.Files, asked.Moves, asked.Author)
	must(e == api.OK, e)
	id := c.encode(api.Object{Kind: api.KChange, Change: change})
	return c.record(asked, c.head(), []api.Id{id})
}

func (c *call) checkout(asked api.Command) api.Answer {
	id, s := c.whole(asked.Name)
	return api.Answer{Id: id, Files: s.Files()}
}

func (c *call) branch(asked api.Command) api.Answer {
	return c.name(asked, c.refs.Branches, api.RBranch, "branch")
}

func (c *call) tag(asked api.Command) api.Answer {
	return c.name(asked, c.refs.Tags, api.RTag, "tag")
}

// name makes a ref of a kind beside those that there are.
func (c *call) name(asked api.Command, there []refs.Named, kind uint8, note string) api.Answer {
	must(path.Name(asked.Name), api.ErrName)
	must(!slices.ContainsFunc(there, called(asked.Name)), api.ErrThere)
	id, _ := c.whole(asked.Other)
	c.update(note, api.Update{Kind: kind, Name: asked.Name, New: id})
	return api.Answer{Id: id}
}

// called asks whether a ref has a name.
func called(name string) func(refs.Named) bool {
	return func(n refs.Named) bool { return n.Name == name }
}

func (c *call) drop(asked api.Command) api.Answer {
	return c.unname(asked, c.refs.Branches, api.RBranch, "drop")
}

func (c *call) untag(asked api.Command) api.Answer {
	return c.unname(asked, c.refs.Tags, api.RTag, "untag")
}

// unname takes a ref of a kind away.
func (c *call) unname(asked api.Command, there []refs.Named, kind uint8, note string) api.Answer {
	place := slices.IndexFunc(there, called(asked.Name))
	must(place >= 0, api.ErrNone)
	c.update(note, api.Update{Kind: kind, Name: asked.Name, Old: there[place].Id})
	return api.Answer{}
}

func (c *call) switchTo(asked api.Command) api.Answer {
	id, _ := c.whole(asked.Name) // of a branch and a tag with one name the branch's
	to := api.Update{Kind: api.RHead, New: id}
	if slices.ContainsFunc(c.refs.Branches, called(asked.Name)) {
		to = api.Update{Kind: api.RHead, Name: asked.Name}
	}
	c.update("switch", to)
	return api.Answer{Id: id}
}

func (c *call) merge(asked api.Command) api.Answer {
	mustSign(asked)
	head, other := c.at(""), c.at(asked.Name)
	must(!slices.Contains(c.past(head), other), api.ErrClean)
	if slices.Contains(c.past(other), head) {
		c.state(other)
		c.move(other, asked.Note)
		return api.Answer{Id: other}
	}
	c.state(head, other) // that of the commit that is to be made, which must be whole
	return c.record(asked, []api.Id{head, other}, nil)
}

func (c *call) pick(asked api.Command) api.Answer {
	mustSign(asked)
	from := c.object(c.at(asked.Name))
	must(from.Kind == api.KCommit, api.ErrForm)
	s := c.state(c.head()...)
	changes := c.missing(s, from.Commit.Changes)
	must(len(changes) > 0, api.ErrClean)
	must(len(changes) <= api.MaxChanges, api.ErrFull)
	c.add(s, changes) // that of the commit that is to be made, which must be whole
	return c.record(asked, c.head(), changes)
}

// missing is changes and all that they hang on, but for those that a state has. (What these hang on it has, too.)
func (c *call) missing(s *state.State, changes []api.Id) []api.Id {
	var missing []api.Id
	met := map[api.Id]int{}
	for left := slices.Clone(changes); len(left) > 0; {
		id := left[len(left)-1]
		left = left[:len(left)-1]
		met[id]++
		if met[id] == 1 && !s.Has(id) {
			missing = append(missing, id)
			left = append(left, c.object(id).Change.Deps...)
		}
	}
	return missing
}

func (c *call) blame(asked api.Command) api.Answer {
	id, s := c.whole(asked.Name)
	runs, e := s.Blame(asked.Other)
	must(e == api.OK, e)
	return api.Answer{Id: id, Runs: runs}
}

func (c *call) status(asked api.Command) api.Answer {
	rows, e := scan.Status(c.state(c.head()...), asked.Files)
	must(e == api.OK, e)
	return api.Answer{Lines: rowLines(rows)}
}

func (c *call) diff(asked api.Command) api.Answer {
	id, other := c.at(asked.Name), c.at(asked.Other)
	lines, e := hunk.Lines(c.state(id).Files(), c.state(other).Files())
	must(e == api.OK, e)
	return api.Answer{Id: id, Lines: lines}
}

func (c *call) gc(api.Command) api.Answer {
	c.mustWhole(c.roots)
	return c.keep(c.reach(c.roots...), nil)
}

func (c *call) repack(asked api.Command) api.Answer {
	return c.keep(c.vault.Ids(), asked.Choices)
}

// keep puts objects into packs, and lets go of all others.
func (c *call) keep(ids []api.Id, choices []int) api.Answer {
	clash, e := c.vault.Keep(ids, choices)
	var id api.Id
	if e == api.ErrCollision {
		id = sha.Sum(clash[0])
	}
	mustPut(e, id, clash...)
	return api.Answer{}
}
