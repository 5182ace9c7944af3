package wire

import (
	"variorum/api"
	"variorum/order"
	"variorum/path"
)

const (
	mostSession = 1<<31 - 1
	mostRefs    = 2 * api.MaxRefs // as many branches, and as many tags
)

// part is one that messages of some kinds have.
type part struct {
	right func(m api.Message) bool
	clear func(m *api.Message)
	put   func(w *writer, m api.Message)
	get   func(r *reader, m *api.Message)
}

// of is the part that a field is: which ones may be, and how it is written and read.
func of[T any](field func(m *api.Message) *T, right func(v T) bool, put func(w *writer, v T), get func(r *reader) T) part {
	return part{
		right: func(m api.Message) bool { return right(*field(&m)) },
		clear: func(m *api.Message) {
			var zero T
			*field(m) = zero
		},
		put: func(w *writer, m api.Message) { put(w, *field(&m)) },
		get: func(r *reader, m *api.Message) { *field(m) = get(r) },
	}
}

// kinds tells which parts the messages of each kind have, in the order of their bytes.
func kinds() map[uint8][]part {
	session := of(func(m *api.Message) *int { return &m.Session }, upTo(mostSession), (*writer).number, (*reader).number)
	refs := of(func(m *api.Message) *[]api.Update { return &m.Refs }, rightRefs, (*writer).refs, (*reader).refs)
	wants := of(func(m *api.Message) *[]api.Id { return &m.Wants }, rightIds, (*writer).ids, (*reader).ids)
	haves := of(func(m *api.Message) *[]api.Id { return &m.Haves }, rightIds, (*writer).ids, (*reader).ids)
	size := of(func(m *api.Message) *int { return &m.Size }, upTo(api.MaxPack), (*writer).number, (*reader).number)
	at := of(func(m *api.Message) *int { return &m.At }, upTo(api.MaxPack), (*writer).number, (*reader).number)
	sum := of(func(m *api.Message) *api.Id { return &m.Id }, anyId, (*writer).id, (*reader).id)
	chunk := of(func(m *api.Message) *[]byte { return &m.Bytes }, rightChunk, (*writer).chunk, (*reader).chunk)
	name := of(func(m *api.Message) *string { return &m.Name }, path.Name, (*writer).text, (*reader).name)
	from := of(func(m *api.Message) *api.Id { return &m.Old }, anyId, (*writer).id, (*reader).id)
	to := of(func(m *api.Message) *api.Id { return &m.New }, notZero, (*writer).id, (*reader).id)
	force := of(func(m *api.Message) *bool { return &m.Force }, anyFlag, (*writer).flag, (*reader).flag)
	code := of(func(m *api.Message) *api.Errno { return &m.Code }, upTo(api.ErrUse), (*writer).code, (*reader).code)
	return map[uint8][]part{
		api.MHello: {session},
		api.MRefs:  {session, refs},
		api.MWant:  {session, wants, haves},
		api.MHead:  {session, size, sum},
		api.MAsk:   {session, at},
		api.MPiece: {session, at, chunk},
		api.MPush:  {session, size, sum, name, from, to, force},
		api.MDone:  {session, code},
	}
}

// blank: is all zero but a message's kind and session, which all have?
func blank(m api.Message) bool {
	return len(m.Refs) == 0 && len(m.Wants) == 0 && len(m.Haves) == 0 && m.Size == 0 && m.At == 0 && !notZero(m.Id) &&
		len(m.Bytes) == 0 && m.Name == "" && !notZero(m.Old) && !notZero(m.New) && !m.Force && m.Code == api.OK
}

// upTo: is a number from 0 to the most?
func upTo[T ~int](most T) func(n T) bool {
	return func(n T) bool { return 0 <= n && n <= most }
}

func anyId(api.Id) bool { return true }

func anyFlag(bool) bool { return true }

func notZero(id api.Id) bool { return id != api.Id{} }

func rightChunk(b []byte) bool { return 1 <= len(b) && len(b) <= api.MaxChunk }

// rightIds: are they a set that may be wanted, or had?
func rightIds(l []api.Id) bool {
	return len(l) <= api.MaxNodes && order.IsSet(l) && (len(l) == 0 || notZero(l[0])) // zero would be the first one
}

// rightRefs: are they branches and tags as they may be told?
func rightRefs(l []api.Update) bool {
	if len(l) > mostRefs {
		return false
	}
	for i, u := range l {
		if u.Kind != api.RBranch && u.Kind != api.RTag || !path.Name(u.Name) || notZero(u.Old) || !notZero(u.New) || i > 0 && !rise(l[i-1], u) {
			return false
		}
	}
	return true
}

// rise: does a stand ahead of b, by their kinds, then by their names?
func rise(a, b api.Update) bool {
	return a.Kind < b.Kind || a.Kind == b.Kind && a.Name < b.Name
}
