package repo_test

import (
	"maps"
	"slices"
	"strconv"

	"variorum/api"
	"variorum/hunk"
	"variorum/object"
	"variorum/order"
	"variorum/pack"
	"variorum/path"
	"variorum/refs"
	"variorum/scan"
	"variorum/sha"
	"variorum/state"
	"variorum/vault"
	"variorum/weave"
)

// plain is a repository that keeps all objects in a list, and works out all that it is asked as the chapter tells it.
type plain struct {
	refs    refs.Refs
	objects map[api.Id]string
}

func newPlain() *plain { return &plain{refs.Begin(), map[api.Id]string{}} }

// copy is another one with the same objects and refs.
func (p *plain) copy() *plain { return &plain{p.refs, maps.Clone(p.objects)} }

// try does something that gives up by a panic with an error, and tells that.
func (p *plain) try(do func()) (e api.Errno) {
	defer func() {
		switch why := recover().(type) {
		case nil:
		case api.Errno:
			e = why
		default:
			panic(why)
		}
	}()
	do()
	return api.OK
}

func check(so bool, e api.Errno) {
	if !so {
		panic(e)
	}
}

func (p *plain) object(id api.Id, kind uint8) (api.Object, bool) {
	b, ok := p.objects[id]
	o, e := object.Decode([]byte(b))
	return o, ok && e == api.OK && o.Kind == kind
}

func (p *plain) put(b []byte) api.Id {
	id := sha.Sum(b)
	p.objects[id] = string(b)
	return id
}

func (p *plain) encode(o api.Object) api.Id {
	b, e := object.Encode(o)
	check(e == api.OK, e)
	return p.put(b)
}

// past is a commit, its parents, theirs, and so on.
func (p *plain) past(id api.Id) []api.Id {
	l := []api.Id{id}
	for i := 0; i < len(l); i++ {
		o, _ := p.object(l[i], api.KCommit)
		for _, parent := range o.Commit.Parents {
			if !slices.Contains(l, parent) {
				l = append(l, parent)
			}
		}
	}
	return l
}

// whole is a commit's state, and what it reaches; nil, if it is not whole.
func (p *plain) whole(id api.Id) (*state.State, []api.Id) {
	past := p.past(id)
	var changes []api.Id
	for _, one := range past {
		o, ok := p.object(one, api.KCommit)
		if !ok {
			return nil, nil
		}
		changes = append(changes, o.Commit.Changes...)
	}
	changes = order.Set(changes)
	for _, one := range changes {
		if _, ok := p.object(one, api.KChange); !ok {
			return nil, nil
		}
	}
	time := func(id api.Id) int {
		o, _ := p.object(id, api.KChange)
		return o.Change.Time
	}
	s := state.New()
	slices.SortStableFunc(changes, func(a, b api.Id) int { return time(a) - time(b) })
	for _, one := range changes {
		o, _ := p.object(one, api.KChange)
		if s.Add(one, o.Change) != api.OK {
			return nil, nil
		}
	}
	return s, order.Union(past, changes)
}

func (p *plain) known(id api.Id) bool {
	for _, root := range refs.Roots(p.refs) {
		if slices.Contains(p.past(root), id) {
			return true
		}
	}
	return false
}

func (p *plain) at(name string) api.Id {
	id, e := refs.Look(p.refs, name)
	check(e == api.OK, api.ErrNone)
	check(p.known(id), api.ErrMissing)
	return id
}

func (p *plain) state(id api.Id) *state.State {
	s, _ := p.whole(id)
	check(s != nil, api.ErrForm)
	return s
}

// head is what the head is at, if anything, and its state.
func (p *plain) head() ([]api.Id, *state.State) {
	id, e := refs.Look(p.refs, "")
	if e != api.OK {
		return nil, state.New()
	}
	return []api.Id{id}, p.state(id)
}

func (p *plain) update(note string, l ...api.Update) {
	r, e := refs.Apply(p.refs, l, note)
	check(e == api.OK, e)
	p.refs = r
}

func (p *plain) move(id api.Id, note string) {
	u := api.Update{Kind: api.RHead, New: id}
	if p.refs.Head != "" {
		old, _ := refs.Look(p.refs, "")
		u = api.Update{Kind: api.RBranch, Name: p.refs.Head, Old: old, New: id}
	}
	p.update(note, u)
}

func (p *plain) make(c api.Command, parents, changes []api.Id) api.Id {
	id := p.encode(api.Object{Kind: api.KCommit, Commit: api.Commit{Parents: order.Set(parents), Changes: order.Set(changes), Author: c.Author, Message: c.Note, Stamp: c.Stamp}})
	p.state(id)
	p.move(id, c.Note)
	return id
}

// do does a command.
func (p *plain) do(c api.Command) (a api.Answer) {
	e := p.try(func() {
		if c.Kind == api.CCommit || c.Kind == api.CMerge || c.Kind == api.CPick {
			check(path.Note(c.Note) && c.Stamp >= 0 && c.Stamp <= api.MaxTime, api.ErrArg)
			check(c.Kind == api.CCommit || path.Author(c.Author), api.ErrName)
		}
		switch c.Kind {
		case api.CCommit:
			head, s := p.head()
			change, e := weave.Import(s, c.Files, c.Moves, c.Author)
			check(e == api.OK, e)
			a.Id = p.make(c, head, []api.Id{p.encode(api.Object{Kind: api.KChange, Change: change})})
		case api.CMerge:
			a.Id = p.merge(c)
		case api.CPick:
			a.Id = p.pick(c)
		case api.CBranch, api.CTag, api.CDrop, api.CUntag, api.CSwitch:
			a.Id = p.doRefs(c)
		case api.CGc, api.CRepack:
			p.keep(c)
		default:
			a = p.tell(c)
		}
	})
	if e != api.OK {
		return api.Answer{Error: e}
	}
	return a
}

func (p *plain) merge(c api.Command) api.Id {
	head, other := p.at(""), p.at(c.Name)
	check(!slices.Contains(p.past(head), other), api.ErrClean)
	if slices.Contains(p.past(other), head) {
		p.state(other)
		p.move(other, c.Note)
		return other
	}
	return p.make(c, []api.Id{head, other}, nil)
}

func (p *plain) pick(c api.Command) api.Id {
	o, ok := p.object(p.at(c.Name), api.KCommit)
	check(ok, api.ErrForm)
	head, s := p.head()
	all := slices.Clone(o.Commit.Changes)
	for i := 0; i < len(all); i++ {
		o, _ := p.object(all[i], api.KChange)
		for _, dep := range o.Change.Deps {
			if !slices.Contains(all, dep) {
				all = append(all, dep)
			}
		}
	}
	all = slices.DeleteFunc(all, s.Has)
	check(len(all) > 0, api.ErrClean)
	check(len(all) <= api.MaxChanges, api.ErrFull)
	return p.make(c, head, all)
}

func (p *plain) doRefs(c api.Command) (id api.Id) {
	find := func(l []refs.Named) (api.Id, bool) {
		for _, n := range l {
			if n.Name == c.Name {
				return n.Id, true
			}
		}
		return api.Id{}, false
	}
	branch, isBranch := find(p.refs.Branches)
	tag, isTag := find(p.refs.Tags)
	switch c.Kind {
	case api.CBranch, api.CTag:
		check(path.Name(c.Name), api.ErrName)
		check(c.Kind == api.CTag || !isBranch, api.ErrThere)
		check(c.Kind == api.CBranch || !isTag, api.ErrThere)
		id = p.at(c.Other)
		p.state(id)
		if c.Kind == api.CBranch {
			p.update("branch", api.Update{Kind: api.RBranch, Name: c.Name, New: id})
		} else {
			p.update("tag", api.Update{Kind: api.RTag, Name: c.Name, New: id})
		}
	case api.CDrop:
		check(isBranch, api.ErrNone)
		p.update("drop", api.Update{Kind: api.RBranch, Name: c.Name, Old: branch})
	case api.CUntag:
		check(isTag, api.ErrNone)
		p.update("untag", api.Update{Kind: api.RTag, Name: c.Name, Old: tag})
	case api.CSwitch:
		id = p.at(c.Name)
		p.state(id)
		if isBranch {
			p.update("switch", api.Update{Kind: api.RHead, Name: c.Name})
		} else {
			p.update("switch", api.Update{Kind: api.RHead, New: id})
		}
	}
	return id
}

func (p *plain) keep(c api.Command) {
	if c.Kind == api.CRepack {
		return
	}
	kept := map[api.Id]string{}
	for _, root := range refs.Roots(p.refs) {
		_, reach := p.whole(root)
		for _, id := range reach {
			kept[id] = p.objects[id]
		}
	}
	p.objects = kept
}

// log is a commit's past: each time, of those all of whose children are told, the one with the greatest stamp, of these the first.
func (p *plain) log(id api.Id) (log []api.Id) {
	left := order.Set(p.past(id))
	for len(left) > 0 {
		best, stamp := -1, -1
		for i, one := range left {
			waits := false
			for _, other := range left {
				o, _ := p.object(other, api.KCommit)
				waits = waits || slices.Contains(o.Commit.Parents, one)
			}
			if o, _ := p.object(one, api.KCommit); !waits && o.Commit.Stamp > stamp {
				best, stamp = i, o.Commit.Stamp
			}
		}
		log = append(log, left[best])
		left = slices.Delete(left, best, best+1)
	}
	return log
}

func (p *plain) tell(c api.Command) (a api.Answer) {
	tell := func(l ...string) {
		s := l[0]
		for _, part := range l[1:] {
			s += " " + part
		}
		a.Lines = append(a.Lines, s)
	}
	switch c.Kind {
	case api.CCheckout:
		a.Id = p.at(c.Name)
		a.Files = p.state(a.Id).Files()
	case api.CLog:
		a.Id = p.at(c.Name)
		p.state(a.Id)
		for _, id := range p.log(a.Id) {
			o, _ := p.object(id, api.KCommit)
			tell(digits(id), strconv.Itoa(o.Commit.Stamp), o.Commit.Author, o.Commit.Message)
		}
	case api.CBlame:
		a.Id = p.at(c.Name)
		runs, e := p.state(a.Id).Blame(c.Other)
		check(e == api.OK, e)
		a.Runs = runs
	case api.CReflog:
		for i := len(p.refs.Log) - 1; i >= 0; i-- {
			e := p.refs.Log[i]
			tell([]string{"", "branch", "tag", "head"}[e.Kind], e.Name, digits(e.Old), digits(e.New), e.Note)
		}
	case api.CStatus:
		_, s := p.head()
		rows, e := scan.Status(s, c.Files)
		check(e == api.OK, e)
		for _, row := range rows {
			if row.Kind == scan.SMove {
				tell("move", row.From, row.Path, strconv.Itoa(row.Cost))
			} else {
				tell([]string{"", "add", "edit", "gone"}[row.Kind], row.Path, strconv.Itoa(row.Cost))
			}
		}
	case api.CDiff:
		a.Id = p.at(c.Name)
		other := p.at(c.Other)
		l, e := hunk.Lines(p.state(a.Id).Files(), p.state(other).Files())
		check(e == api.OK, e)
		a.Lines = l
	case api.CRefs:
		head := p.refs.Head
		if head == "" {
			head = digits(p.refs.At)
		}
		tell("head", head)
		for _, n := range p.refs.Branches {
			tell("branch", n.Name, digits(n.Id))
		}
		for _, n := range p.refs.Tags {
			tell("tag", n.Name, digits(n.Id))
		}
	default:
		panic(api.ErrArg)
	}
	return a
}

func (p *plain) reach(l []api.Id) (set []api.Id, e api.Errno) {
	e = p.try(func() {
		for _, id := range l {
			check(p.known(id), api.ErrMissing)
		}
		for _, id := range l {
			s, reach := p.whole(id)
			check(s != nil, api.ErrForm)
			set = order.Union(set, reach)
		}
	})
	if e != api.OK {
		return nil, e
	}
	return set, e
}

func (p *plain) bundle(wants, haves []api.Id, choices []int) ([]byte, api.Errno) {
	set, e := p.reach(wants)
	if e != api.OK {
		return nil, e
	}
	for _, id := range haves {
		if p.known(id) {
			has, e := p.reach([]api.Id{id})
			if e != api.OK {
				return nil, e
			}
			set = order.Minus(set, has)
		}
	}
	var parts []pack.Part
	var sizes []int
	for _, id := range set {
		parts = append(parts, pack.Part{Bytes: []byte(p.objects[id])})
		sizes = append(sizes, len(p.objects[id]))
	}
	packs, bases := vault.Plan(sizes, choices)
	for i := range parts {
		parts[i].Base = bases[i]
		if bases[i] >= 0 {
			parts[i].Base += slices.Index(packs, packs[i])
		}
	}
	return pack.Build(parts)
}

func (p *plain) take(all [][]byte) api.Answer {
	for _, b := range all {
		if _, e := object.Decode(b); e != api.OK {
			return api.Answer{Error: e}
		}
	}
	for _, b := range all {
		p.put(b)
	}
	return api.Answer{}
}

func (p *plain) moveRefs(l []api.Update, note string) api.Errno {
	return p.try(func() {
		for _, u := range l {
			if u.New != (api.Id{}) {
				p.state(u.New)
			}
		}
		p.update(note, l...)
	})
}
