package pack_test

import (
	"bytes"
	"crypto/sha256"
	"encoding/binary"
	"math"
	"slices"

	"variorum/api"
	"variorum/delta"
	"variorum/pack"
)

// What the tests write and read packs by: put down as the chapter tells it, with the library's sums and numbers.

func sum(s string) api.Id { return sha256.Sum256([]byte(s)) }

func num(n int) []byte { return binary.AppendUvarint(nil, uint64(n)) }

func word(n int) []byte { return binary.BigEndian.AppendUint32(nil, uint32(n)) }

// told is an object as a pack tells it.
type told struct {
	id   api.Id // which it stands under in the pack, whatever its sum is
	kind byte
	base api.Id
	text []byte // its bytes, or a delta
}

// whole is an object that is told by its bytes, upon one that is told by a delta.
func whole(s string) told { return told{id: sum(s), text: []byte(s)} }

func upon(base, s string) told {
	return told{sum(s), 1, sum(base), delta.Make([]byte(base), []byte(s))}
}

// as is the same under another id.
func (o told) as(id api.Id) told {
	o.id = id
	return o
}

// on is the same upon another id.
func (o told) on(base api.Id) told {
	o.kind, o.base = 1, base
	return o
}

// by is the same with another text.
func (o told) by(text ...byte) told {
	o.text = text
	return o
}

func (o told) bytes() []byte {
	b := []byte{o.kind}
	if o.kind == 1 {
		b = append(b, o.base[:]...)
	}
	return slices.Concat(b, num(len(o.text)), o.text)
}

// layout is a pack's parts, each of which a test may spoil.
type layout struct {
	mark    byte
	count   []byte
	objects []byte
	fan     [256]int
	ids     []api.Id
	places  []int
	begin   int // of the fan
}

// laid is the parts of a pack of these objects.
func laid(objects ...told) *layout {
	l := &layout{mark: 'P', count: num(len(objects))}
	at := map[api.Id]int{}
	for _, o := range objects {
		at[o.id] = 1 + len(l.count) + len(l.objects)
		l.objects = append(l.objects, o.bytes()...)
		l.ids = append(l.ids, o.id)
	}
	slices.SortFunc(l.ids, func(a, b api.Id) int { return bytes.Compare(a[:], b[:]) })
	for _, id := range l.ids {
		l.places = append(l.places, at[id])
		for first := int(id[0]); first < 256; first++ {
			l.fan[first]++
		}
	}
	l.begin = 1 + len(l.count) + len(l.objects)
	return l
}

// bytes is the pack, with a sum that is right.
func (l *layout) bytes() []byte {
	b := slices.Concat([]byte{l.mark}, l.count, l.objects)
	for _, n := range l.fan {
		b = append(b, word(n)...)
	}
	for i, id := range l.ids {
		b = append(b, id[:]...)
		b = append(b, word(l.places[i])...)
	}
	return sealed(append(b, word(l.begin)...))
}

// sealed is bytes with their sum behind them.
func sealed(b []byte) []byte {
	id := sha256.Sum256(b)
	return slices.Concat(b, id[:])
}

// packed is the pack of these objects.
func packed(objects ...told) []byte { return laid(objects...).bytes() }

// plainBuild is the pack of parts that may be.
func plainBuild(parts []pack.Part) []byte {
	var objects []told
	for _, p := range parts {
		if p.Base < 0 {
			objects = append(objects, whole(string(p.Bytes)))
		} else {
			objects = append(objects, upon(string(parts[p.Base].Bytes), string(p.Bytes)))
		}
	}
	return packed(objects...)
}

// have is what a pack has of an id.
type have struct {
	text  string
	depth int
}

// plainForm is the objects that a pack tells, if it is of the form.
func plainForm(b []byte) (objects map[api.Id]told, ok bool) {
	defer func() {
		if recover() != nil { // a place beyond the end
			objects, ok = nil, false
		}
	}()
	at := 0
	must := func(so bool) {
		if !so {
			panic("no pack")
		}
	}
	take := func(n int) []byte {
		at += n
		return b[at-n : at]
	}
	number := func() int {
		n, size := binary.Uvarint(b[at:])
		must(size > 0 && n <= math.MaxInt && len(num(int(n))) == size)
		take(size)
		return int(n)
	}
	words := func() int { return int(binary.BigEndian.Uint32(take(4))) }

	b = b[:len(b)-32]
	must(take(1)[0] == 'P')
	n := number()
	at0 := map[int]told{}
	for range n {
		place := at
		o := told{kind: take(1)[0]}
		must(o.kind < 2)
		if o.kind == 1 {
			o.base = api.Id(take(32))
		}
		o.text = take(number())
		at0[place] = o
	}
	begin := at
	var fan [256]int
	for i := range fan {
		fan[i] = words()
	}
	objects = map[api.Id]told{}
	var last api.Id
	for i := range n {
		id := api.Id(take(32))
		o, met := at0[words()]
		must(met && (i == 0 || bytes.Compare(last[:], id[:]) < 0))
		o.id, last = id, id
		objects[id] = o
	}
	must(words() == begin && at == len(b))
	begun := map[*byte]bool{} // each object has an id of its own
	for first, n := range fan {
		for id := range objects {
			if int(id[0]) <= first {
				n--
			}
		}
		must(n == 0)
	}
	for _, o := range objects {
		_, met := objects[o.base]
		must(o.kind == 0 || met)
		if len(o.text) > 0 {
			must(!begun[&o.text[0]])
			begun[&o.text[0]] = true
		}
	}
	return objects, true
}

// plainOpen is what Open answers: each id's bytes and depth, or an error.
func plainOpen(b []byte) (map[api.Id]have, api.Errno) {
	switch {
	case len(b) > api.MaxPack:
		return nil, api.ErrLong
	case len(b) < 36:
		return nil, api.ErrForm
	case sha256.Sum256(b[:len(b)-32]) != api.Id(b[len(b)-32:]):
		return nil, api.ErrSum
	}
	objects, ok := plainForm(b)
	if !ok {
		return nil, api.ErrForm
	}
	var ids []api.Id
	for id := range objects {
		ids = append(ids, id)
	}
	slices.SortFunc(ids, func(a, b api.Id) int { return bytes.Compare(a[:], b[:]) })
	all, total := map[api.Id]have{}, 0
	for _, id := range ids {
		var way []told
		for o := objects[id]; o.kind == 1; o = objects[o.base] {
			way = append(way, o)
			if len(way) > 50 {
				return nil, api.ErrDeep
			}
		}
		first := objects[id]
		if len(way) > 0 {
			first = objects[way[len(way)-1].base]
		}
		text := first.text
		for i := len(way) - 1; i >= 0; i-- {
			var e api.Errno
			if text, e = delta.Apply(text, way[i].text); e != api.OK {
				return nil, api.ErrForm
			}
		}
		if total += len(text); sum(string(text)) != id {
			return nil, api.ErrSum
		}
		if total > api.MaxTotal {
			return nil, api.ErrLong
		}
		all[id] = have{string(text), len(way)}
	}
	return all, api.OK
}
