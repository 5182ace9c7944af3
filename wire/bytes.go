package wire

import (
	"variorum/api"
	"variorum/leb"
)

// writer puts a message's parts one behind the other.
type writer struct {
	bytes []byte
}

// write is the bytes of a message that may be.
func write(m api.Message) []byte {
	w := &writer{[]byte{m.Kind}}
	for _, p := range kinds()[m.Kind] {
		p.put(w, m)
	}
	return w.bytes
}

// number puts one that may be: none is below 0.
func (w *writer) number(n int) {
	b, _ := leb.Put(nil, n)
	w.bytes = append(w.bytes, b...)
}

func (w *writer) text(s string) { w.bytes = append(w.bytes, leb.PutText(nil, s)...) }

func (w *writer) chunk(b []byte) { w.text(string(b)) }

func (w *writer) id(id api.Id) { w.bytes = append(w.bytes, id[:]...) }

func (w *writer) code(e api.Errno) { w.number(int(e)) }

func (w *writer) flag(set bool) {
	b := byte(0)
	if set {
		b = 1
	}
	w.bytes = append(w.bytes, b)
}

func (w *writer) ids(l []api.Id) { putList(w, l, w.id) }

func (w *writer) refs(l []api.Update) {
	putList(w, l, func(u api.Update) {
		w.bytes = append(w.bytes, u.Kind)
		w.text(u.Name)
		w.id(u.New)
	})
}

// putList puts how many there are, and each.
func putList[T any](w *writer, l []T, put func(one T)) {
	w.number(len(l))
	for _, one := range l {
		put(one)
	}
}

// reader takes a message's parts off its bytes, one behind the other. It panics where the bytes are not of the form.
type reader struct {
	bytes []byte
	at    int
}

// read is the message that some bytes tell, if they are of the form; it may yet be one that may not be.
func read(b []byte) (m api.Message, ok bool) {
	defer func() {
		if recover() != nil {
			m, ok = api.Message{}, false
		}
	}()
	r := &reader{bytes: b}
	m.Kind = r.byte()
	for _, p := range kinds()[m.Kind] {
		p.get(r, &m)
	}
	r.must(r.at == len(b))
	return m, true
}

// must gives up where something is not so.
func (r *reader) must(so bool) {
	if !so {
		panic(api.ErrForm)
	}
}

func (r *reader) byte() byte {
	r.must(r.at < len(r.bytes))
	r.at++
	return r.bytes[r.at-1]
}

func (r *reader) number() int {
	n, next, e := leb.Get(r.bytes, r.at)
	r.step(next, e)
	return n
}

func (r *reader) text(most int) string {
	s, next, e := leb.GetText(r.bytes, r.at, most)
	r.step(next, e)
	return s
}

func (r *reader) name() string { return r.text(api.MaxName) }

func (r *reader) chunk() []byte { return []byte(r.text(api.MaxChunk)) }

func (r *reader) id() api.Id {
	id, next, e := leb.GetId(r.bytes, r.at)
	r.step(next, e)
	return id
}

func (r *reader) code() api.Errno { return api.Errno(r.number()) }

func (r *reader) flag() bool {
	b := r.byte()
	r.must(b <= 1)
	return b == 1
}

func (r *reader) ids() []api.Id { return getList(r, r.id) }

func (r *reader) refs() []api.Update {
	return getList(r, func() (u api.Update) {
		u.Kind = r.byte()
		u.Name = r.name()
		u.New = r.id()
		return u
	})
}

// step goes on to what stands behind a part.
func (r *reader) step(next int, e api.Errno) {
	r.must(e == api.OK)
	r.at = next
}

// getList takes how many there are, and each.
func getList[T any](r *reader, get func() T) []T {
	var l []T
	for range r.number() {
		l = append(l, get())
	}
	return l
}
