package session

import (
	"variorum/api"
	"variorum/sha"
	"variorum/wire"
)

// push is one that comes in.
type push struct {
	incoming
	update api.Update
	force  bool
}

// pushOf is the push that a message tells, no bytes of it having come.
func pushOf(m api.Message) *push {
	return &push{
		incoming: incoming{size: m.Size, sum: m.Id},
		update:   api.Update{Kind: api.RBranch, Name: m.Name, Old: m.Old, New: m.New},
		force:    m.Force,
	}
}

// same: are two pushes one, but for what has come of them?
func (p *push) same(other *push) bool {
	return p.size == other.size && p.sum == other.sum && p.update == other.update && p.force == other.force
}

// answers tells with what a server answers a message of each kind.
func answers() map[uint8]func(s *Server, m api.Message) api.Message {
	return map[uint8]func(s *Server, m api.Message) api.Message{
		api.MHello: (*Server).hello,
		api.MWant:  (*Server).want,
		api.MAsk:   (*Server).ask,
		api.MPush:  (*Server).push,
		api.MPiece: (*Server).piece,
	}
}

// done is the message with an error's number.
func done(e api.Errno) api.Message { return api.Message{Kind: api.MDone, Code: e} }

func (s *Server) hello(api.Message) api.Message {
	return api.Message{Kind: api.MRefs, Refs: wire.Of(s.repo.Refs())}
}

func (s *Server) want(m api.Message) api.Message {
	pack, e := s.repo.Bundle(m.Wants, m.Haves, s.choices)
	if e != api.OK {
		return done(e)
	}
	s.packs[m.Session] = pack
	return api.Message{Kind: api.MHead, Size: len(pack), Id: sha.Sum(pack)}
}

func (s *Server) ask(m api.Message) api.Message {
	pack, out := s.packs[m.Session]
	switch {
	case !out:
		return done(api.ErrState)
	case m.At >= len(pack):
		return done(api.ErrArg)
	}
	return piece(pack, m.At)
}

func (s *Server) push(m api.Message) api.Message {
	told := pushOf(m)
	p, in := s.pushes[m.Session]
	if !in || !p.same(told) {
		p = told
		s.pushes[m.Session] = p
	}
	if p.all() { // of no bytes
		return s.close(m.Session)
	}
	return p.ask()
}

func (s *Server) piece(m api.Message) api.Message {
	p, in := s.pushes[m.Session]
	switch {
	case !in:
		return done(api.ErrState)
	case !p.next(m):
		return p.ask()
	case !p.take(m):
		delete(s.pushes, m.Session)
		return done(api.ErrSum)
	case p.all():
		return s.close(m.Session)
	}
	return p.ask()
}

// close does the push of a session, all of which has come.
func (s *Server) close(session int) api.Message {
	p := s.pushes[session]
	delete(s.pushes, session)
	return done(s.do(p))
}

func (s *Server) do(p *push) api.Errno {
	if !p.right() {
		return api.ErrSum
	}
	if a := s.repo.Unbundle(p.bytes); a.Error != api.OK {
		return a.Error
	}
	if e := behind(s.repo, p.update, p.force); e != api.OK {
		return e
	}
	return s.repo.Move([]api.Update{p.update}, "push")
}
