package session

import (
	"variorum/api"
	"variorum/order"
	"variorum/repo"
	"variorum/sha"
)

// incoming is a pack that comes in, piece by piece.
type incoming struct {
	size  int
	sum   api.Id
	bytes []byte // those that have come
}

// next: is a piece next?
func (p *incoming) next(m api.Message) bool { return m.At == len(p.bytes) }

// take takes a piece that is next, unless it is too long.
func (p *incoming) take(m api.Message) bool {
	if len(p.bytes)+len(m.Bytes) > p.size {
		return false
	}
	p.bytes = append(p.bytes, m.Bytes...)
	return true
}

// all: have all bytes come?
func (p *incoming) all() bool { return len(p.bytes) == p.size }

// right: is their sum the one that was told?
func (p *incoming) right() bool { return sha.Sum(p.bytes) == p.sum }

// ask asks for the piece that is next.
func (p *incoming) ask() api.Message { return api.Message{Kind: api.MAsk, At: len(p.bytes)} }

// piece is as much of a pack, from a place within on, as goes at once.
func piece(pack []byte, at int) api.Message {
	return api.Message{Kind: api.MPiece, At: at, Bytes: pack[at:min(len(pack), at+api.MaxChunk)]}
}

// at is where a branch or a tag is, by what is told of all of them; zero, if it is not there.
func at(told []api.Update, kind uint8, name string) api.Id {
	for _, u := range told {
		if u.Kind == kind && u.Name == name {
			return u.New
		}
	}
	return api.Id{}
}

// news is all ids that are told of branches and tags.
func news(told []api.Update) []api.Id {
	var ids []api.Id
	for _, u := range told {
		ids = append(ids, u.New)
	}
	return order.Set(ids)
}

// behind is why a branch may not move to a commit: that is not whole, or, unless it is forced, not ahead of where the branch is.
func behind(r *repo.Repo, u api.Update, force bool) api.Errno {
	past, e := r.Past(u.New)
	if e != api.OK {
		return e
	}
	if _, there := order.Find(past, u.Old); !there && !force && u.Old != (api.Id{}) {
		return api.ErrBehind
	}
	return api.OK
}
