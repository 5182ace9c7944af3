package session

import (
	"slices"

	"variorum/api"
	"variorum/path"
	"variorum/refs"
	"variorum/sha"
	"variorum/wire"
)

// stage is what a client is.
type stage uint8

const (
	fetching stage = iota + 1 // at first
	wanting
	pulling
	pushing // at first
	offering
	giving
	ended
)

// says tells what a client says, by what it is.
func says() map[stage]func(c *Client) api.Message {
	return map[stage]func(c *Client) api.Message{
		fetching: (*Client).hello,
		wanting:  (*Client).want,
		pulling:  (*Client).ask,
		pushing:  (*Client).hello,
		offering: (*Client).propose,
		giving:   (*Client).give,
	}
}

// heard is what a client is, and the kind of what it hears then.
type heard struct {
	stage stage
	kind  uint8
}

// hears tells what a client does with what it hears.
func hears() map[heard]func(c *Client, m api.Message) {
	return map[heard]func(c *Client, m api.Message){
		{fetching, api.MRefs}: (*Client).look,
		{wanting, api.MHead}:  (*Client).pull,
		{wanting, api.MDone}:  (*Client).refused,
		{pulling, api.MPiece}: (*Client).piece,
		{pulling, api.MDone}:  (*Client).refused,
		{pushing, api.MRefs}:  (*Client).prepare,
		{offering, api.MAsk}:  (*Client).asked,
		{offering, api.MDone}: (*Client).done,
		{giving, api.MAsk}:    (*Client).asked,
		{giving, api.MDone}:   (*Client).done,
	}
}

// again has a client be as at first.
func (c *Client) again() { *c = Client{task: c.task, stage: c.first} }

// end ends a client.
func (c *Client) end(a api.Answer) { *c = Client{stage: ended, answer: a} }

// endWith ends it with an error, or with OK.
func (c *Client) endWith(e api.Errno) { c.end(api.Answer{Error: e}) }

func (c *Client) hello() api.Message { return api.Message{Kind: api.MHello} }

// want wants what is told. All roots are known.
func (c *Client) want() api.Message {
	return api.Message{Kind: api.MWant, Wants: c.wants, Haves: refs.Roots(c.repo.Refs())}
}

func (c *Client) refused(api.Message) { c.again() }

// look looks at what a server has.
func (c *Client) look(m api.Message) {
	c.told = m.Refs
	c.wants = slices.DeleteFunc(news(m.Refs), c.repo.Known)
	c.stage = wanting
	if len(c.wants) == 0 {
		c.finish()
	}
}

// pull begins with a pack.
func (c *Client) pull(m api.Message) {
	c.stage = pulling
	c.incoming = incoming{size: m.Size, sum: m.Id}
	if c.all() { // of no bytes
		c.close()
	}
}

func (c *Client) piece(m api.Message) {
	switch {
	case !c.next(m):
	case !c.take(m):
		c.again()
	case c.all():
		c.close()
	}
}

// close puts what a pack has, all of which has come.
func (c *Client) close() {
	if !c.right() {
		c.again()
		return
	}
	a := c.repo.Unbundle(c.bytes)
	switch a.Error {
	case api.OK:
		c.finish()
	case api.ErrLong, api.ErrForm, api.ErrSum, api.ErrDeep:
		c.again()
	default:
		c.end(a)
	}
}

// finish has the branches and tags that were told, all commits being there.
func (c *Client) finish() {
	var e api.Errno
	if l := c.updates(); len(l) > 0 {
		e = c.repo.Move(l, "fetch")
	}
	if e == api.ErrForm {
		c.again()
		return
	}
	c.endWith(e)
}

// updates is what has to be done to have the branches and tags that were told; a tag stays where it is.
func (c *Client) updates() []api.Update {
	var l []api.Update
	own := wire.Of(c.repo.Refs())
	for _, u := range c.told {
		u.Name = c.prefix + u.Name
		u.Old = at(own, u.Kind, u.Name)
		stays := u.Old == u.New || u.Kind == api.RTag && u.Old != api.Id{}
		if path.Name(u.Name) && !stays {
			l = append(l, u)
		}
	}
	return l
}

// prepare makes the pack for a server that has these branches and tags, if the branch may be pushed there.
func (c *Client) prepare(m api.Message) {
	own := wire.Of(c.repo.Refs())
	u := api.Update{Kind: api.RBranch, Name: c.name, Old: at(m.Refs, api.RBranch, c.name), New: at(own, api.RBranch, c.name)}
	if u.New == (api.Id{}) {
		c.endWith(api.ErrNone)
		return
	}
	if u.Old == u.New {
		c.endWith(api.OK)
		return
	}
	if e := behind(c.repo, u, c.force); e != api.OK {
		c.endWith(e)
		return
	}
	pack, e := c.repo.Bundle([]api.Id{u.New}, news(m.Refs), c.choices)
	if e != api.OK {
		c.endWith(e)
		return
	}
	c.pack, c.stage = pack, offering
	c.offer = api.Message{Kind: api.MPush, Name: u.Name, Old: u.Old, New: u.New, Force: c.force, Size: len(pack), Id: sha.Sum(pack)}
}

func (c *Client) propose() api.Message { return c.offer }

func (c *Client) give() api.Message { return piece(c.pack, c.from) }

// asked gives from there on, if there is something.
func (c *Client) asked(m api.Message) {
	if m.At >= len(c.pack) {
		c.again()
		return
	}
	c.stage, c.from = giving, m.At
}

// done hears what has become of a push. What may go better once more is tried again.
func (c *Client) done(m api.Message) {
	switch m.Code {
	case api.ErrState, api.ErrSum, api.ErrMoved, api.ErrForm:
		c.again()
	default:
		c.endWith(m.Code)
	}
}
