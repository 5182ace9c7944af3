package journal

import (
	"variorum/api"
	"variorum/leb"
	"variorum/refs"
)

// What a record's bytes begin with.
const (
	snapshotMark    = 'S' // refs follow
	transactionMark = 'T' // updates and a note follow
)

// record is bytes with their length ahead.
func record(b []byte) []byte { return leb.PutText(nil, string(b)) }

// snapshot is what a record has of refs that may be.
func snapshot(r refs.Refs) []byte {
	b, _ := refs.Encode(r)
	return append([]byte{snapshotMark}, b...)
}

// transaction is what a record has of updates and their note.
func transaction(l []api.Update, note string) []byte {
	count, _ := leb.Put(nil, len(l)) // no length is below 0
	b := append([]byte{transactionMark}, count...)
	text := func(s string) { b = append(b, leb.PutText(nil, s)...) }
	for _, u := range l {
		b = append(b, u.Kind)
		text(u.Name)
		b = append(b, u.Old[:]...)
		b = append(b, u.New[:]...)
	}
	text(note)
	return b
}

// read is the refs that a journal's bytes tell, and whether it is torn, if all its whole records are some.
func read(b []byte) (r refs.Refs, torn, ok bool) {
	defer func() {
		if recover() != nil {
			r, torn, ok = refs.Refs{}, false, false
		}
	}()
	r = refs.Begin()
	for at := 0; at < len(b); {
		size, from, e := leb.Get(b, at)
		if e != api.OK || size > len(b)-from {
			return r, true, true
		}
		at = from + size
		r = (&reader{bytes: b[from:at]}).behind(r)
	}
	return r, false, true
}

// reader takes a record's parts off its bytes, one behind the other. It panics where the bytes are not of the form.
type reader struct {
	bytes []byte
	at    int
}

// must gives up where something is not so.
func (r *reader) must(so bool) {
	if !so {
		panic(api.ErrForm)
	}
}

// behind is the refs behind a record, upon those ahead of it.
func (r *reader) behind(ahead refs.Refs) (next refs.Refs) {
	e := api.ErrForm
	switch r.byte() {
	case snapshotMark:
		next, e = refs.Decode(r.bytes[r.at:])
	case transactionMark:
		l, note := r.transaction()
		next, e = refs.Apply(ahead, l, note)
	}
	r.must(e == api.OK)
	return next
}

func (r *reader) transaction() (l []api.Update, note string) {
	n, next, e := leb.Get(r.bytes, r.at)
	r.step(next, e)
	for range n {
		l = append(l, r.update())
	}
	note = r.text(api.MaxMessage)
	r.must(r.at == len(r.bytes))
	return l, note
}

func (r *reader) update() (u api.Update) {
	u.Kind = r.byte()
	u.Name = r.text(api.MaxName)
	u.Old = r.id()
	u.New = r.id()
	return u
}

func (r *reader) byte() byte {
	r.must(r.at < len(r.bytes))
	r.at++
	return r.bytes[r.at-1]
}

func (r *reader) text(most int) string {
	s, next, e := leb.GetText(r.bytes, r.at, most)
	r.step(next, e)
	return s
}

func (r *reader) id() api.Id {
	id, next, e := leb.GetId(r.bytes, r.at)
	r.step(next, e)
	return id
}

// step goes on to what stands behind a part.
func (r *reader) step(next int, e api.Errno) {
	r.must(e == api.OK)
	r.at = next
}
