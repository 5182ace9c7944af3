package object

import (
	"variorum/api"
	"variorum/leb"
)

// What an object's bytes begin with.
const (
	changeMark = 'C'
	commitMark = 'K'
)

// writer puts an object's parts one behind the other.
type writer struct {
	bytes  []byte
	places map[api.Id]int // a change's deps: one more than where each stands
}

// write is the bytes of an object that may be.
func write(o api.Object) []byte {
	w := &writer{places: map[api.Id]int{}}
	if o.Kind == api.KChange {
		w.change(o.Change)
	} else {
		w.commit(o.Commit)
	}
	return w.bytes
}

func (w *writer) change(c api.Change) {
	for i, id := range c.Deps {
		w.places[id] = i + 1
	}
	w.byte(changeMark)
	w.number(c.Time)
	w.ids(c.Deps)
	w.text(c.Author)
	have := kinds()
	putList(w, c.Ops, func(op api.Op) { w.op(op, have[op.Kind]) })
}

func (w *writer) op(op api.Op, has parts) {
	w.byte(op.Kind)
	if has.doc {
		w.ref(op.Doc)
	}
	if has.at {
		w.ref(op.At)
	}
	if has.text {
		w.text(op.Text)
	}
	if has.count {
		w.number(op.Count)
	}
	if has.path {
		w.text(op.Path)
	}
}

func (w *writer) commit(c api.Commit) {
	w.byte(commitMark)
	w.ids(c.Parents)
	w.ids(c.Changes)
	w.text(c.Author)
	w.text(c.Message)
	w.number(c.Stamp)
}

// ref puts a ref; the zero Id, of the change itself, has the place 0 as it has none among the deps.
func (w *writer) ref(r api.Ref) {
	w.number(w.places[r.Change])
	w.number(r.Index)
}

func (w *writer) ids(l []api.Id) {
	putList(w, l, func(id api.Id) { w.bytes = append(w.bytes, id[:]...) })
}

func (w *writer) text(s string) { w.bytes = append(w.bytes, leb.PutText(nil, s)...) }

func (w *writer) byte(c byte) { w.bytes = append(w.bytes, c) }

// number puts one that may be: none is below 0.
func (w *writer) number(n int) {
	b, _ := leb.Put(nil, n)
	w.bytes = append(w.bytes, b...)
}

// putList puts how many there are, and each.
func putList[T any](w *writer, l []T, put func(one T)) {
	w.number(len(l))
	for _, one := range l {
		put(one)
	}
}

// reader takes an object's parts off its bytes, one behind the other. It panics where the bytes are not of the form.
type reader struct {
	bytes []byte
	at    int
	deps  []api.Id
}

// read is the object that some bytes tell, if they are of the form; it may yet be one that may not be.
func read(b []byte) (o api.Object, ok bool) {
	defer func() {
		if recover() != nil {
			o, ok = api.Object{}, false
		}
	}()
	r := &reader{bytes: b}
	o = r.object()
	r.must(r.at == len(b))
	return o, true
}

// must gives up where something is not so.
func (r *reader) must(so bool) {
	if !so {
		panic(api.ErrForm)
	}
}

func (r *reader) object() api.Object {
	switch r.byte() {
	case changeMark:
		return api.Object{Kind: api.KChange, Change: r.change()}
	case commitMark:
		return api.Object{Kind: api.KCommit, Commit: r.commit()}
	}
	panic(api.ErrForm)
}

func (r *reader) change() (c api.Change) {
	c.Time = r.number()
	r.deps = r.ids()
	c.Deps = r.deps
	c.Author = r.text(api.MaxName)
	have := kinds()
	c.Ops = getList(r, func() api.Op { return r.op(have) })
	return c
}

func (r *reader) op(have map[uint8]parts) (op api.Op) {
	op.Kind = r.byte()
	has := have[op.Kind]
	if has.doc {
		op.Doc = r.ref()
	}
	if has.at {
		op.At = r.ref()
	}
	if has.text {
		op.Text = r.text(api.MaxFile)
	}
	if has.count {
		op.Count = r.number()
	}
	if has.path {
		op.Path = r.text(api.MaxPath)
	}
	return op
}

func (r *reader) commit() (c api.Commit) {
	c.Parents = r.ids()
	c.Changes = r.ids()
	c.Author = r.text(api.MaxName)
	c.Message = r.text(api.MaxMessage)
	c.Stamp = r.number()
	return c
}

func (r *reader) ref() (f api.Ref) {
	if place := r.number(); place > 0 {
		r.must(place <= len(r.deps))
		f.Change = r.deps[place-1]
	}
	f.Index = r.number()
	return f
}

func (r *reader) ids() []api.Id {
	return getList(r, func() api.Id {
		id, next, e := leb.GetId(r.bytes, r.at)
		r.step(next, e)
		return id
	})
}

func (r *reader) text(most int) string {
	s, next, e := leb.GetText(r.bytes, r.at, most)
	r.step(next, e)
	return s
}

func (r *reader) number() int {
	n, next, e := leb.Get(r.bytes, r.at)
	r.step(next, e)
	return n
}

func (r *reader) byte() byte {
	r.must(r.at < len(r.bytes))
	r.at++
	return r.bytes[r.at-1]
}

// step goes on to what stands behind a part.
func (r *reader) step(next int, e api.Errno) {
	r.must(e == api.OK)
	r.at = next
}

// getList takes how many there are, and each.
func getList[T any](r *reader, get func() T) []T {
	var l []T
	for range r.number() {
		l = append(l, get())
	}
	return l
}
