package state

import (
	"variorum/api"
	"variorum/block"
	"variorum/order"
	"variorum/register"
)

// shelf is documents, by their keys, and what paths they have.
type shelf struct {
	documents map[api.Key]document
	named     map[string]api.Key // nil, where claims have come since it was asked for
}

// document is one's elements, and its last claim, as the others no longer count.
type document struct {
	key      api.Key
	elements *block.Doc
	claim    register.Claim
}

// newShelf is one without documents.
func newShelf() shelf { return shelf{documents: map[api.Key]document{}} }

// claim puts down what a claim says; the first one of a document makes it.
func (s *shelf) claim(claim register.Claim) {
	d, there := s.documents[claim.Doc]
	switch {
	case !there:
		d = document{claim.Doc, block.New(), claim}
	case order.Keys(d.claim.Key, claim.Key) < 0:
		d.claim = claim
	}
	s.documents[claim.Doc] = d
	s.named = nil
}

// paths is the paths that documents have. It is worked out once for all that is asked between two claims, as each document is held against all others there.
func (s *shelf) paths() map[string]api.Key {
	if s.named != nil {
		return s.named
	}
	var claims []register.Claim
	for _, d := range s.documents {
		claims = append(claims, d.claim)
	}
	s.named = map[string]api.Key{}
	for _, named := range register.Paths(claims) {
		s.named[named.Path] = named.Doc
	}
	return s.named
}

// copy is another shelf with the same documents.
func (s *shelf) copy() shelf {
	other := newShelf()
	for key, d := range s.documents {
		d.elements = d.elements.Copy()
		other.documents[key] = d
	}
	return other
}
