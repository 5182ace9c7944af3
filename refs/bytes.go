package refs

import (
	"variorum/api"
	"variorum/leb"
)

// write is the bytes of refs that may be.
func write(r Refs) []byte {
	var b []byte
	number := func(n int) {
		piece, _ := leb.Put(nil, n) // no length is below 0
		b = append(b, piece...)
	}
	text := func(s string) { b = append(b, leb.PutText(nil, s)...) }
	id := func(id api.Id) { b = append(b, id[:]...) }
	names := func(l []Named) {
		number(len(l))
		for _, n := range l {
			text(n.Name)
			id(n.Id)
		}
	}
	names(r.Branches)
	names(r.Tags)
	text(r.Head)
	id(r.At)
	number(len(r.Log))
	for _, entry := range r.Log {
		b = append(b, entry.Kind)
		text(entry.Name)
		id(entry.Old)
		id(entry.New)
		text(entry.Note)
	}
	return b
}

// reader takes refs' parts off their bytes, one behind the other. It panics where the bytes are not of the form.
type reader struct {
	bytes []byte
	at    int
}

// read is the refs that some bytes tell, if they are of the form; they may yet be some that may not be.
func read(b []byte) (refs Refs, ok bool) {
	defer func() {
		if recover() != nil {
			refs, ok = Refs{}, false
		}
	}()
	r := &reader{bytes: b}
	refs.Branches = r.names()
	refs.Tags = r.names()
	refs.Head = r.text(api.MaxName)
	refs.At = r.id()
	refs.Log = getList(r, api.MaxReflog, r.entry)
	r.must(r.at == len(b))
	return refs, true
}

// must gives up where something is not so.
func (r *reader) must(so bool) {
	if !so {
		panic(api.ErrForm)
	}
}

func (r *reader) names() []Named {
	return getList(r, api.MaxRefs, func() (n Named) {
		n.Name = r.text(api.MaxName)
		n.Id = r.id()
		return n
	})
}

func (r *reader) entry() (entry api.Entry) {
	entry.Kind = r.byte()
	entry.Name = r.text(api.MaxName)
	entry.Old = r.id()
	entry.New = r.id()
	entry.Note = r.text(api.MaxMessage)
	return entry
}

func (r *reader) byte() byte {
	r.must(r.at < len(r.bytes))
	r.at++
	return r.bytes[r.at-1]
}

func (r *reader) text(most int) string {
	s, next, e := leb.GetText(r.bytes, r.at, most)
	r.step(next, e)
	return s
}

func (r *reader) id() api.Id {
	id, next, e := leb.GetId(r.bytes, r.at)
	r.step(next, e)
	return id
}

// step goes on to what stands behind a part.
func (r *reader) step(next int, e api.Errno) {
	r.must(e == api.OK)
	r.at = next
}

// getList takes how many there are, which is at most so many, and each.
func getList[T any](r *reader, most int, get func() T) []T {
	n, next, e := leb.Get(r.bytes, r.at)
	r.step(next, e)
	r.must(n <= most)
	var l []T
	for range n {
		l = append(l, get())
	}
	return l
}
