package pack

import (
	"bytes"

	"variorum/api"
	"variorum/delta"
	"variorum/leb"
	"variorum/order"
	"variorum/sha"
)

// What a pack's bytes begin with, and the kinds of its objects.
const (
	packMark  = 'P'
	wholeKind = 0 // told by its bytes
	deltaKind = 1 // told by a delta upon another one's
)

// How many bytes parts of a pack have.
const (
	idSize    = len(api.Id{})
	wordSize  = 4 // a number of the fan, or a place
	fanLength = 256
	fanSize   = fanLength * wordSize
	entrySize = idSize + wordSize // an id, and its place
	tailSize  = wordSize + idSize // the fan's place, and the sum
)

// write is the bytes of a pack of parts that may be.
func write(parts []Part, ids []api.Id) ([]byte, api.Errno) {
	b := append([]byte{packMark}, number(len(parts))...)
	behind := fanSize + len(parts)*entrySize + tailSize
	places := map[api.Id]int{}
	for i, part := range parts {
		places[ids[i]] = len(b)
		if part.Base < 0 {
			b = append(b, wholeKind)
			b = append(b, text(part.Bytes)...)
		} else {
			b = append(b, deltaKind)
			b = append(b, ids[part.Base][:]...)
			b = append(b, text(delta.Make(parts[part.Base].Bytes, part.Bytes))...)
		}
		if len(b)+behind > api.MaxPack {
			return nil, api.ErrLong
		}
	}
	b = append(b, ending(order.Set(ids), places, len(b))...)
	return leb.PutId(b, sha.Sum(b)), api.OK
}

// number is the bytes of one that is not below 0.
func number(n int) []byte {
	b, _ := leb.Put(nil, n)
	return b
}

// text is bytes with their length ahead.
func text(b []byte) []byte { return leb.PutText(nil, string(b)) }

// ending is what stands between the objects and the sum: the fan of a set of ids, their places, and that of the fan.
func ending(set []api.Id, places map[api.Id]int, fanPlace int) []byte {
	var fan [fanLength]int
	for _, id := range set {
		for first := int(id[0]); first < len(fan); first++ {
			fan[first]++
		}
	}
	var b []byte
	for _, n := range fan {
		b = append(b, word(n)...)
	}
	for _, id := range set {
		b = append(b, id[:]...)
		b = append(b, word(places[id])...)
	}
	return append(b, word(fanPlace)...)
}

// word is a number of a fixed size; none that is put is greater than MaxPack.
func word(n int) []byte { return []byte{byte(n >> 24), byte(n >> 16), byte(n >> 8), byte(n)} }

// listing is what a pack's bytes have: its ids, and how each one's object is told.
type listing struct {
	ids  []api.Id
	told map[api.Id]telling
}

// telling is an object as it is told: by its bytes, or by a delta upon its base's.
type telling struct {
	base   api.Id
	isUpon bool
	bytes  []byte
}

// reader takes a pack's parts off its bytes, one behind the other. It panics where the bytes are not of the form.
type reader struct {
	bytes []byte
	at    int
}

// read is what stands in a pack's bytes ahead of the sum, if they are of the form.
func read(b []byte) (l listing, ok bool) {
	defer func() {
		if recover() != nil {
			l, ok = listing{}, false
		}
	}()
	return (&reader{bytes: b}).listing(), true
}

// must gives up where something is not so.
func (r *reader) must(so bool) {
	if !so {
		panic(api.ErrForm)
	}
}

func (r *reader) listing() listing {
	r.must(r.byte() == packMark)
	n := r.number()
	begun := map[int]telling{} // by the places where they begin
	for range n {
		place := r.at
		begun[place] = r.object()
	}
	fanPlace := r.at
	r.at += fanSize // what stands there is held against the ids below
	l := listing{told: map[api.Id]telling{}}
	places := map[api.Id]int{}
	for range n {
		id, place := r.id(), r.word()
		o, begins := begun[place]
		r.must(begins)
		delete(begun, place) // each object has one id
		l.ids = append(l.ids, id)
		l.told[id], places[id] = o, place
	}
	r.must(order.IsSet(l.ids))
	r.must(bytes.Equal(r.bytes[fanPlace:], ending(l.ids, places, fanPlace)))
	for _, o := range l.told {
		_, there := l.told[o.base]
		r.must(there || !o.isUpon)
	}
	return l
}

func (r *reader) object() (o telling) {
	switch r.byte() {
	case wholeKind:
	case deltaKind:
		o.isUpon = true
		o.base = r.id()
	default:
		r.must(false)
	}
	o.bytes = r.text()
	return o
}

func (r *reader) text() []byte {
	s, next, e := leb.GetText(r.bytes, r.at, len(r.bytes))
	r.step(next, e)
	return []byte(s)
}

func (r *reader) number() int {
	n, next, e := leb.Get(r.bytes, r.at)
	r.step(next, e)
	return n
}

func (r *reader) id() api.Id {
	id, next, e := leb.GetId(r.bytes, r.at)
	r.step(next, e)
	return id
}

func (r *reader) word() int {
	n := 0
	for range wordSize {
		n = n<<8 | int(r.byte())
	}
	return n
}

func (r *reader) byte() byte {
	r.must(r.at < len(r.bytes))
	r.at++
	return r.bytes[r.at-1]
}

// step goes on to what stands behind a part.
func (r *reader) step(next int, e api.Errno) {
	r.must(e == api.OK)
	r.at = next
}
