package pack_test

import (
	"bytes"
	"math"
	"math/rand"
	"slices"
	"strconv"
	"strings"
	"testing"
	"time"

	"variorum/api"
	"variorum/pack"
)

// part is one of a text, upon the part at a place (-1: none).
func part(s string, base int) pack.Part { return pack.Part{Bytes: []byte(s), Base: base} }

// builds fails, unless the pack of some parts is the plain one, and has just these objects (P11.4).
func builds(t *testing.T, parts ...pack.Part) []byte {
	t.Helper()
	b, e := pack.Build(parts)
	if e != api.OK {
		t.Fatalf("error %d", e)
	}
	if !bytes.Equal(b, plainBuild(parts)) {
		t.Errorf("%d parts: %.80v", len(parts), b)
	}
	want := map[api.Id]have{}
	for _, p := range parts {
		h := have{text: string(p.Bytes)}
		if p.Base >= 0 {
			h.depth = want[sum(string(parts[p.Base].Bytes))].depth + 1
		}
		want[sum(h.text)] = h
	}
	has(t, b, want)
	return b
}

// has fails, unless a pack is opened, and has just these objects.
func has(t *testing.T, b []byte, want map[api.Id]have) {
	t.Helper()
	p, e := pack.Open(b)
	if e != api.OK {
		t.Errorf("error %d", e)
		return
	}
	holds(t, p, want)
}

func holds(t *testing.T, p *pack.Pack, want map[api.Id]have) {
	t.Helper()
	ids := p.Ids()
	if p.Len() != len(want) || len(ids) != len(want) {
		t.Errorf("%d, %d ids; want %d", p.Len(), len(ids), len(want))
	}
	for i, id := range ids {
		if i > 0 && bytes.Compare(ids[i-1][:], id[:]) >= 0 {
			t.Errorf("%x is behind %x", id, ids[i-1])
		}
	}
	for id, h := range want {
		b, e := p.Get(id)
		if string(b) != h.text || e != api.OK {
			t.Errorf("%x: %.60q, %d; want %.60q", id, b, e, h.text)
		}
		if n, e := p.Depth(id); n != h.depth || e != api.OK {
			t.Errorf("%x: depth %d, %d; want %d", id, n, e, h.depth)
		}
		id[31]++
		if _, there := want[id]; !there {
			lacks(t, p, id, api.ErrMissing)
		}
	}
	lacks(t, p, api.Id{}, api.ErrMissing)
}

// lacks fails, unless a pack tells of an id this error.
func lacks(t *testing.T, p *pack.Pack, id api.Id, want api.Errno) {
	t.Helper()
	if b, e := p.Get(id); len(b) > 0 || e != want {
		t.Errorf("%x: %q, %d", id, b, e)
	}
	if n, e := p.Depth(id); n != 0 || e != want {
		t.Errorf("%x: depth %d, %d", id, n, e)
	}
}

// fails fails, unless parts are refused so.
func fails(t *testing.T, want api.Errno, parts ...pack.Part) {
	t.Helper()
	if b, e := pack.Build(parts); len(b) > 0 || e != want {
		t.Errorf("%d bytes, error %d; want %d", len(b), e, want)
	}
}

// refuses fails, unless Open refuses bytes so.
func refuses(t *testing.T, b []byte, want api.Errno) {
	t.Helper()
	if p, e := pack.Open(b); p != nil || e != want {
		t.Errorf("%d bytes: %v, error %d; want %d", len(b), p != nil, e, want)
	}
}

// random is n bytes, each one of k.
func random(r *rand.Rand, n, k int) string {
	b := make([]byte, n)
	for i := range b {
		b[i] = byte(r.Intn(k))
	}
	return string(b)
}

// The examples of the chapter.
func TestExamples(t *testing.T) {
	b, e := pack.Build(nil)
	if want := sealed(append([]byte{'P', 0}, slices.Concat(make([]byte, 1024), []byte{0, 0, 0, 2})...)); e != api.OK || len(b) != 1062 || !bytes.Equal(b, want) {
		t.Errorf("%v, %d", b, e)
	}
	has(t, b, nil)
	builds(t)
	if again, e := pack.Build([]pack.Part{}); !bytes.Equal(again, b) || e != api.OK {
		t.Error("no parts")
	}

	parts := []pack.Part{part("abcdefgh", -1), part("abcdefghi", 0)}
	first, second := sum("abcdefgh"), sum("abcdefghi")
	b, e = pack.Build(parts)
	ahead := slices.Concat([]byte{'P', 2, 0, 8}, []byte("abcdefgh"), []byte{1}, first[:], []byte{6, 8, 9, 17, 0, 2, 'i'})
	if e != api.OK || !bytes.HasPrefix(b, ahead) || len(b) != len(ahead)+1024+72+36 {
		t.Errorf("%v, %d", b, e)
	}
	p, e := pack.Open(b)
	if e != api.OK {
		t.Fatalf("error %d", e)
	}
	for i, id := range []api.Id{first, second} {
		if n, e := p.Depth(id); n != i || e != api.OK {
			t.Errorf("depth %d, %d", n, e)
		}
	}
	builds(t, parts...)
}

// P11.1: the pack's bytes, of few and many objects.
func TestBuild(t *testing.T) {
	builds(t, part("", -1))
	builds(t, part("", -1), part("x", 0), part("xy", 1), part("y", 1), part("z", -1))
	builds(t, part("x", -1), part("", 0), part("b", 1))
	for _, n := range []int{127, 128, 129, 16383, 16384} {
		builds(t, part(strings.Repeat("v", n), -1), part(strings.Repeat("v", n-1), 0), part(strings.Repeat("w", n), 0))
	}
	many := []pack.Part{part("0123456789", -1)}
	for i := range 300 {
		many = append(many, part("0123456789"+strconv.Itoa(i), i%50))
	}
	for _, n := range []int{127, 128, 129, 255, 256, 301} {
		builds(t, many[:n]...)
	}
	r := rand.New(rand.NewSource(1))
	for range 300 {
		var parts []pack.Part
		for i := range r.Intn(40) {
			s := "to each part its own number, " + strconv.Itoa(i) + random(r, r.Intn(60), 1+r.Intn(256))
			if r.Intn(2) == 0 && i > 0 {
				s = string(parts[r.Intn(i)].Bytes) + s
			}
			parts = append(parts, part(s, r.Intn(i+1)-1))
		}
		builds(t, parts...)
	}
}

// P11.1: all objects whose first byte is one of the 256: each number of the fan counts.
func TestFan(t *testing.T) {
	var parts []pack.Part
	var met [256]bool
	for i, n := 0, 0; n < 256; i++ {
		s := strconv.Itoa(i)
		if first := sum(s)[0]; !met[first] {
			met[first] = true
			parts = append(parts, part(s, -1))
			n++
		}
	}
	b := builds(t, parts...)
	fan := b[len(b)-36-256*36-1024:]
	for i := range 256 {
		if !bytes.Equal(fan[4*i:4*i+4], []byte{0, 0, byte((i + 1) / 256), byte(i + 1)}) {
			t.Errorf("%d: %v", i, fan[4*i:4*i+4])
		}
	}
}

// chain is so many parts, each upon the one ahead.
func chain(n int) []pack.Part {
	var parts []pack.Part
	for i := range n {
		parts = append(parts, part("a chain's part "+strconv.Itoa(i), i-1))
	}
	return parts
}

// P11.1: what one part may not be, in the order of the errors, part by part.
func TestBuildErrors(t *testing.T) {
	long := strings.Repeat("v", api.MaxObject+1)
	good := []pack.Part{part("a", -1), part("b", 0)}
	with := func(more ...pack.Part) []pack.Part { return slices.Concat(good, more) }

	fails(t, api.ErrLong, part(long, -1))
	fails(t, api.ErrLong, with(part(long, 0))...)
	for _, base := range []int{-2, 2, 3, math.MinInt, math.MaxInt} {
		fails(t, api.ErrArg, with(part("c", base))...)
		fails(t, api.ErrLong, with(part(long, base))...)
		fails(t, api.ErrArg, with(part("a", base))...)
		fails(t, api.ErrArg, with(part("c", base), part(long, 0))...)
		fails(t, api.ErrLong, with(part(long, 0), part("c", base))...)
	}
	fails(t, api.ErrArg, part("a", 0))
	fails(t, api.ErrArg, part("a", 1), part("b", -1))
	builds(t, with(part("c", 1))...)
	for _, base := range []int{-1, 0, 1} {
		fails(t, api.ErrThere, with(part("a", base))...)
		fails(t, api.ErrThere, with(part("b", base))...)
		fails(t, api.ErrThere, with(part("b", base), part("c", 9))...)
	}
	fails(t, api.ErrThere, part("", -1), pack.Part{Base: 0})

	builds(t, chain(51)...) // 50 deltas, one upon the other
	fails(t, api.ErrDeep, chain(52)...)
	deep := chain(51)
	fails(t, api.ErrDeep, append(deep, part("c", 50))...)
	builds(t, append(deep, part("c", 49), part("d", -1), part("e", 52))...)
	fails(t, api.ErrDeep, append(deep, part("c", 49), part("d", 51))...)
	fails(t, api.ErrThere, append(deep, part(string(deep[7].Bytes), 50))...)
	fails(t, api.ErrArg, append(deep, part("c", 51))...)
	fails(t, api.ErrLong, append(deep, part(long, 50))...)
	fails(t, api.ErrDeep, append(deep, part("c", 50), part(long, -1))...)
	fails(t, api.ErrDeep, append(deep, part("c", 50), part("c", 99))...)
}

// alike is so many texts of n bytes that have much in common.
func alike(r *rand.Rand, count, n int) []string {
	first := random(r, n, 256)
	l := []string{first}
	for i := 1; i < count; i++ {
		l = append(l, first[:9*i]+strconv.Itoa(100+i)+first[9*i+3:])
	}
	return l
}

// P11.1, P11.2: objects of MaxObject bytes, of MaxTotal together, upon one another, and one byte more.
func TestTotal(t *testing.T) {
	parts, objects, want := []pack.Part{part("", -1)}, []told{whole("")}, map[api.Id]have{sum(""): {}}
	l := alike(rand.New(rand.NewSource(2)), 16, api.MaxObject)
	for i, s := range l {
		base := min(i, 1)
		want[sum(s)] = have{s, base}
		parts = append(parts, part(s, 2*base-1)) // the first of them has the place 1
		if objects = append(objects, whole(s)); i > 0 {
			objects[i+1] = upon(l[0], s)
		}
	}
	b, e := pack.Build(parts)
	if e != api.OK || len(b) > api.MaxObject+4096 || !bytes.Equal(b, packed(objects...)) {
		t.Errorf("%d bytes, error %d", len(b), e)
	}
	has(t, b, want)
	fails(t, api.ErrLong, append(parts, part("x", -1))...)
	fails(t, api.ErrArg, append(parts, part("x", -1), part("y", -2))...)
	fails(t, api.ErrThere, append(parts, part("x", -1), part("x", -1))...)
	refuses(t, packed(append(objects, whole("x"))...), api.ErrLong)
}

// P11.1, P11.2: packs of MaxPack bytes, and of one byte more.
func TestLength(t *testing.T) {
	r := rand.New(rand.NewSource(3))
	const behind = 1024 + 4*36 + 36
	var parts []pack.Part
	for range 3 {
		parts = append(parts, part(random(r, api.MaxObject, 256), -1))
	}
	rest := api.MaxPack - behind - 2 - 3*(4+api.MaxObject) - 4
	parts = append(parts, part(random(r, rest, 256), -1))
	if b := builds(t, parts...); len(b) != api.MaxPack {
		t.Errorf("%d bytes", len(b))
	}
	parts[3] = part(random(r, rest+1, 256), -1)
	fails(t, api.ErrLong, parts...)
	fails(t, api.ErrThere, append(parts, parts[0])...)
	b := plainBuild(parts)
	if len(b) != api.MaxPack+1 {
		t.Errorf("%d bytes", len(b))
	}
	refuses(t, b, api.ErrLong)
	refuses(t, make([]byte, api.MaxPack+1), api.ErrLong)
	refuses(t, make([]byte, api.MaxPack), api.ErrSum)
	few := append(parts[:3:3], part(string(parts[3].Bytes[:rest-33]), 0)) // nothing in common: 9 more for a delta
	if b := plainBuild(few); len(b) != api.MaxPack+8 {
		t.Errorf("%d bytes", len(b))
	}
	fails(t, api.ErrLong, few...)
}

// P11.1: many small objects: their ids alone are too long.
func TestMany(t *testing.T) {
	var parts []pack.Part
	for i := range 30000 {
		parts = append(parts, part(strconv.Itoa(i), -1))
	}
	builds(t, parts[:23000]...)
	fails(t, api.ErrLong, parts...)
	fails(t, api.ErrThere, append(parts, part("0", -1))...)
}

// sample is a pack of some kinds of objects.
func sample() []told {
	return []told{whole("the first one"), upon("the first one", "the first one's son"), whole(""), whole("x"), upon("the first one's son", "the first one's son's son"), upon("", "y")}
}

// P11.2: too few bytes, and other sums.
func TestOpenSum(t *testing.T) {
	for n := range 36 {
		refuses(t, make([]byte, n), api.ErrForm)
		refuses(t, packed(sample()...)[:n], api.ErrForm)
	}
	refuses(t, nil, api.ErrForm)
	refuses(t, sealed(nil), api.ErrForm) // of 32 bytes
	refuses(t, sealed([]byte("Pxy")), api.ErrForm)
	for n := 36; n < 1100; n++ {
		refuses(t, make([]byte, n), api.ErrSum)
	}
	for n := 4; n < 1200; n++ { // the sum is right, all else is not
		refuses(t, sealed(make([]byte, n)), api.ErrForm)
	}
	b := packed(sample()...)
	if p, e := pack.Open(b); e != api.OK || p.Len() != len(sample()) {
		t.Fatalf("error %d", e)
	}
	for i := range b {
		for _, bit := range []byte{1, 128} {
			b[i] ^= bit
			refuses(t, b, api.ErrSum)
			b[i] ^= bit
		}
	}
	for n := 36; n < len(b); n++ {
		refuses(t, b[:n], api.ErrSum)
		refuses(t, b[len(b)-n:], api.ErrSum)
	}
	refuses(t, append(b, 0), api.ErrSum)
}

// P11.2: what is no pack, though its sum is right.
func TestOpenForm(t *testing.T) {
	spoilt := func(spoil func(l *layout)) {
		t.Helper()
		l := laid(sample()...)
		spoil(l)
		refuses(t, l.bytes(), api.ErrForm)
	}
	good := packed(sample()...)
	for n := range len(good) - 32 { // cut short, at either end
		refuses(t, sealed(good[:n]), api.ErrForm)
		if n > 0 {
			refuses(t, sealed(good[n:len(good)-32]), api.ErrForm)
		}
	}
	for _, mark := range []byte{0, 'p', 'Q', 'O'} {
		spoilt(func(l *layout) { l.mark = mark })
	}
	for _, count := range [][]byte{nil, {0}, {5}, {7}, {134, 0}, {128}, num(1 << 40), num(math.MaxInt), num(math.MaxInt / 36), num(1 << 58), bytes.Repeat([]byte{255}, 9), bytes.Repeat([]byte{255}, 12)} {
		spoilt(func(l *layout) { l.count = count })
		spoilt(func(l *layout) { // all places fit this count
			more := len(count) - len(l.count)
			l.count = count
			for i := range l.places {
				l.places[i] += more
			}
			l.begin += more
		})
	}
	for _, more := range []string{"\x00", "\x00\x00", "x", "\x00\x01x"} { // something stands between
		spoilt(func(l *layout) { l.objects = append(l.objects, more...) })
		spoilt(func(l *layout) { l.objects = append(l.objects, more...); l.begin += len(more) })
	}
	spoilt(func(l *layout) { l.objects = l.objects[:len(l.objects)-1]; l.begin-- })
	for i := range 256 {
		for _, n := range []int{-1, 1, 256, 65536, 1 << 24} {
			spoilt(func(l *layout) { l.fan[i] += n })
		}
	}
	for i := range sample() {
		for _, n := range []int{-1, 1, 2, 256, 65536, 1 << 24} {
			spoilt(func(l *layout) { l.places[i] += n })
		}
		spoilt(func(l *layout) { l.places[i] = 0 })
		spoilt(func(l *layout) { l.places[i] = l.begin })
		spoilt(func(l *layout) { l.places[i] = l.places[(i+1)%6] }) // two have one place
		if i > 0 {
			spoilt(func(l *layout) { l.ids[i], l.ids[i-1] = l.ids[i-1], l.ids[i] })
			spoilt(func(l *layout) {
				l.ids[i], l.ids[i-1] = l.ids[i-1], l.ids[i]
				l.places[i], l.places[i-1] = l.places[i-1], l.places[i]
			})
		}
	}
	for _, n := range []int{-2, -1, 1, 4, 36, 256, 1 << 24} {
		spoilt(func(l *layout) { l.begin += n })
	}
	spoilt(func(l *layout) { l.begin = 0 })
}

// P11.2: ids that do not rise, one of which two objects have, or that fewer or more are than objects.
func TestOpenIds(t *testing.T) {
	x, y := whole("x"), whole("y")
	twice := laid(x, x)
	twice.places = []int{2, 5} // of both objects
	refuses(t, twice.bytes(), api.ErrForm)
	one := laid(x, y)
	one.places[0] = one.places[1]
	refuses(t, one.bytes(), api.ErrForm)

	fewer := laid(x, y)
	fewer.ids, fewer.places = fewer.ids[:1], fewer.places[:1]
	refuses(t, fewer.bytes(), api.ErrForm)
	for i := int(fewer.ids[0][0]); i < 256; i++ {
		fewer.fan[i] = 1
	}
	refuses(t, fewer.bytes(), api.ErrForm)
	fewer.count = num(1)
	refuses(t, fewer.bytes(), api.ErrForm) // an object has none
	more := laid(x)
	more.count, more.ids, more.places = num(2), []api.Id{{}, x.id}, []int{2, 2}
	for i := range more.fan {
		more.fan[i]++
	}
	refuses(t, more.bytes(), api.ErrForm)
}

// P11.2: objects that are none.
func TestOpenObjects(t *testing.T) {
	for kind := byte(2); kind != 0; kind++ {
		o := whole("x")
		o.kind = kind
		refuses(t, packed(o), api.ErrForm)
		refuses(t, packed(whole("y"), o), api.ErrForm)
		o = upon("y", "x")
		o.kind = kind
		refuses(t, packed(whole("y"), o), api.ErrForm)
	}
	base := whole("y")
	for _, id := range []api.Id{{}, sum("z"), {0: base.id[0]}} { // a base that is not one of the ids
		refuses(t, packed(base, upon("y", "x").on(id)), api.ErrForm)
		refuses(t, packed(upon("y", "x").on(id)), api.ErrForm)
	}
	for _, body := range []string{"", "\x00", "\x00\x80", "\x00\x02x", "\x00\x01", "\x00\x81\x00x", "\x00\xff\xff\xff\xff\xff\xff\xff\xff\x7fx", "\x01", "\x01x", "\x01" + string(base.id[:]), "\x01" + string(base.id[:]) + "\x01"} {
		l := laid(whole("x"))
		l.objects, l.begin = []byte(body), 2+len(body)
		refuses(t, l.bytes(), api.ErrForm)
	}
	// The bytes of one go on into the fan.
	l := laid(whole("x"))
	l.objects = append([]byte{0}, num(1025)...)
	l.begin = 2 + len(l.objects)
	refuses(t, l.bytes(), api.ErrForm)
}

// low is an id that stands ahead of most, high one behind most.
func low(n byte) api.Id  { return api.Id{1: n} }
func high(n byte) api.Id { return api.Id{0: 255, 1: 255, 2: n} }

// early is a text whose id begins with a byte below 16, but not with 0; late one whose id begins with one from 240 on, but not with 255.
func early() string { return search(func(first byte) bool { return first > 0 && first < 16 }) }
func late() string  { return search(func(first byte) bool { return first >= 240 && first < 255 }) }

func search(so func(first byte) bool) string {
	for i := 0; ; i++ {
		if s := "a text of some number " + strconv.Itoa(i); so(sum(s)[0]) {
			return s
		}
	}
}

// linked is a chain of so many deltas, each object upon the one ahead, with ids that are not their sums: from low on, or from high on.
func linked(id func(n byte) api.Id, deltas int) []told {
	l := []told{whole("0").as(id(0))}
	for i := 1; i <= deltas; i++ {
		l = append(l, upon(strconv.Itoa(i-1), strconv.Itoa(i)).as(id(byte(i))).on(id(byte(i-1))))
	}
	return l
}

// P11.2: of each id its errors in their order.
func TestOpenId(t *testing.T) {
	wrong := []byte{9, 1, 0} // no delta upon what has not 9 bytes, and none of any
	x := whole("x")
	for _, c := range []struct {
		want    api.Errno
		objects []told
	}{
		{api.ErrSum, []told{x.as(low(1))}},
		{api.ErrSum, []told{x.as(high(1))}},
		{api.ErrSum, []told{x, upon("x", "y").as(low(1))}},
		{api.ErrSum, []told{x, upon("x", "y").as(high(1))}},
		{api.ErrDeep, []told{x.on(x.id)}}, // it comes round to itself
		{api.ErrDeep, []told{x.on(x.id).by(wrong...)}},
		{api.ErrDeep, []told{upon("x", "x")}},
		{api.ErrDeep, []told{x.as(low(1)).on(low(2)), x.as(low(2)).on(low(1))}},
		{api.ErrDeep, []told{x.as(low(1)).on(low(2)), x.as(low(2)).on(low(3)), x.as(low(3)).on(low(2))}}, // to another one
		{api.ErrDeep, []told{x.as(low(1)).on(low(2)), x.as(low(2)).on(low(2))}},
		{api.ErrForm, []told{x, upon("x", "y").by(wrong...)}},
		{api.ErrForm, []told{x, upon("x", "y").by()}},
		{api.ErrForm, []told{x, upon("x", "y").by(0, 1, 2, 'y')}},    // upon nothing
		{api.ErrForm, []told{x, upon("x", "y").by(1, 1, 2, 'y', 0)}}, // something is behind it
		{api.ErrForm, []told{x, upon("x", "y").by(append(slices.Concat(num(1), num(api.MaxObject+1), num(2*api.MaxObject+2)), strings.Repeat("y", api.MaxObject+1)...)...)}},
		{api.ErrForm, []told{x, upon("x", "y").by(append(num(1), num(math.MaxInt)...)...)}},
		{api.ErrForm, []told{x, upon("x", "y").as(low(1)).by(wrong...)}},                                           // its sum does not count
		{api.ErrForm, []told{x.as(high(1)), upon("x", "y").as(high(2)).on(high(1)).by(wrong...).as(low(1))}},       // nor its base's, which stands behind it
		{api.ErrForm, []told{x.as(high(1)), x.as(high(2)).on(high(1)).by(wrong...), upon("", "z").on(high(2))}},    // on its way
		{api.ErrForm, []told{x.as(high(1)), x.as(high(2)).on(high(1)).by(wrong...), upon("x", "z").on(high(2))}},   // likewise
		{api.ErrForm, []told{x.as(high(1)), x.as(high(2)).on(high(1)).by(), upon("", "z").on(high(2)).as(low(1))}}, // likewise
		{api.ErrSum, []told{x.as(low(1)), x.as(low(2)).on(low(1)).by(wrong...), x.on(x.id)}},                       // id by id
		{api.ErrForm, []told{x, x.as(low(1)).on(x.id).by(wrong...), x.as(low(2)), x.as(low(3)).on(low(3))}},        // likewise
		{api.ErrDeep, []told{x, x.as(low(1)).on(low(1)), x.as(low(2)), x.as(low(3)).on(x.id).by(wrong...)}},        // likewise
		{api.ErrSum, linked(low, 51)},                                                                                               // the first one of all
		{api.ErrDeep, linked(func(n byte) api.Id { return low(200 - n) }, 51)},                                                      // the last one of the chain
		{api.ErrSum, linked(func(n byte) api.Id { return low(200 - n) }, 50)},                                                       // 50 are not too many
		{api.ErrDeep, append(linked(high, 50), upon("50", "51").on(high(50)))},                                                      // 51 are
		{api.ErrDeep, append(linked(high, 50), upon("50", "51").on(high(50)).by(wrong...))},                                         // whatever they are
		{api.ErrDeep, append(linked(high, 60), whole(early()), x.as(low(3)).on(high(60)), x.as(low(4)))},                            // 61
		{api.ErrSum, append(linked(high, 60), whole(early()), upon("49", "z").as(low(3)).on(high(49)), x.as(low(4)).on(high(50)))},  // 50, then 51
		{api.ErrDeep, append(linked(high, 60), whole(early()), x.as(low(3)).on(high(50)), upon("49", "z").as(low(4)).on(high(49)))}, // 51, then 50
	} {
		b := packed(c.objects...)
		if _, e := plainOpen(b); e != c.want {
			t.Errorf("the test's own: %d; want %d", e, c.want)
		}
		refuses(t, b, c.want)
		slices.Reverse(c.objects) // in whichever order they stand
		refuses(t, packed(c.objects...), c.want)
	}
}

// P11.2: bytes that have the sum of their id, though those upon which they are told have not.
func TestOpenBaseSum(t *testing.T) {
	first, last := early(), late()
	b := []told{whole("x").as(high(1)), upon("x", first).on(high(1))}
	refuses(t, packed(b...), api.ErrSum)
	refuses(t, packed(append(b, whole(last).on(sum(last)))...), api.ErrDeep)
	refuses(t, packed(append(b, upon(first, last).by(1))...), api.ErrForm)
	has(t, packed(upon("x", first), whole("x")), map[api.Id]have{sum("x"): {"x", 0}, sum(first): {first, 1}})
}

// P11.2: chains of MaxChain deltas, in whichever order their objects stand.
func TestOpenDeep(t *testing.T) {
	r := rand.New(rand.NewSource(4))
	for _, n := range []int{1, 49, 50, 51, 52, 100, 300} {
		l := []told{whole("part 0")}
		for i := 1; i <= n; i++ {
			l = append(l, upon("part "+strconv.Itoa(i-1), "part "+strconv.Itoa(i)))
		}
		r.Shuffle(len(l), func(i, k int) { l[i], l[k] = l[k], l[i] })
		b := packed(l...)
		if n > 50 {
			refuses(t, b, api.ErrDeep)
			continue
		}
		want := map[api.Id]have{}
		for i := range n + 1 {
			s := "part " + strconv.Itoa(i)
			want[sum(s)] = have{s, i}
		}
		has(t, b, want)
	}
}

// P11.2: too many bytes together: only where no id ahead, nor the one with which they are too many, has another error.
func TestOpenTotal(t *testing.T) {
	l := alike(rand.New(rand.NewSource(5)), 17, api.MaxObject)
	objects := []told{whole(l[0])}
	for _, s := range l[1:] {
		objects = append(objects, upon(l[0], s))
	}
	with := func(more ...told) []byte { return packed(slices.Concat(objects, more)...) }
	x := whole("x")
	refuses(t, with(), api.ErrLong)
	refuses(t, with(x.as(low(1))), api.ErrSum)
	refuses(t, with(x.as(high(1))), api.ErrLong)
	refuses(t, with(x.as(high(1)).on(high(1))), api.ErrLong)
	refuses(t, with(x.as(high(1)).on(sum(l[0]))), api.ErrLong)
	refuses(t, with(x.as(low(1)).on(low(1))), api.ErrDeep)
	refuses(t, with(x.as(low(1)).on(sum(l[0]))), api.ErrForm)

	// The last one of 17, with which they are too many, is wrong itself.
	last := slices.MaxFunc(objects[1:], func(a, b told) int { return bytes.Compare(a.id[:], b.id[:]) })
	rest := slices.DeleteFunc(slices.Clone(objects), func(o told) bool { return o.id == last.id })
	refuses(t, packed(append(rest, last.as(high(1)))...), api.ErrSum)
	refuses(t, packed(append(rest, last.as(high(1)), last.as(high(2)))...), api.ErrSum)
	refuses(t, packed(append(rest, last.as(high(1)).by(append(num(api.MaxObject), num(api.MaxObject)...)...))...), api.ErrForm)
	refuses(t, packed(append(rest, last.as(high(1)).by(append(num(api.MaxObject), num(math.MaxInt)...)...))...), api.ErrForm)
	refuses(t, packed(append(rest, last.as(high(1)).on(high(1)))...), api.ErrDeep)
	refuses(t, packed(append(rest, whole("x").as(high(1)), last.as(high(2)))...), api.ErrSum)
	if p, e := pack.Open(packed(rest...)); e != api.OK || p.Len() != 16 {
		t.Errorf("error %d", e)
	}
}

// P11.2, R1: forged packs that tell far more bytes than they have, each way of great objects.
func TestOpenSoon(t *testing.T) {
	great := strings.Repeat("v", api.MaxObject)
	same := slices.Concat(num(api.MaxObject), num(api.MaxObject), num(2*api.MaxObject+1), num(0))
	one := slices.Concat(num(api.MaxObject), num(3), num(2*3))
	begun := time.Now()
	for _, each := range []int{1, 49} { // how long ways are
		l := []told{whole(great).as(high(0))}
		for n := 1; len(l) < 9500; n++ {
			at := high(0)
			for k := range each {
				id := api.Id{0: 255, 1: byte(n >> 8), 2: byte(n), 3: byte(k)}
				l = append(l, told{id, 1, at, same})
				at = id
			}
			s := string([]byte{'a' + byte(n%26), byte(n >> 8), byte(n)}) // whose sum is right
			if id := sum(s); id[0] < 255 {
				l = append(l, told{id, 1, at, append(slices.Clone(one), s...)})
			}
		}
		b := packed(l...)
		refuses(t, b, api.ErrSum)
	}
	if d := time.Since(begun); d > 2*time.Minute {
		t.Errorf("%v", d)
	}
}

// forged is some objects, most of which are right, and those that are not.
func forged(r *rand.Rand) []told {
	var l []told
	var texts []string
	n, straight := r.Intn(9), r.Intn(8) == 0
	if straight {
		n = 45 + r.Intn(15)
	}
	for i := range n {
		s := "number " + strconv.Itoa(i) + random(r, r.Intn(20), 3)
		switch {
		case i == 0 || r.Intn(3) == 0 && !straight:
			l = append(l, whole(s))
		case straight:
			l = append(l, upon(texts[i-1], s))
		default:
			l = append(l, upon(texts[r.Intn(i)], s))
		}
		texts = append(texts, s)
	}
	for range r.Intn(4) * min(n, 1) {
		i, k := r.Intn(n), r.Intn(n)
		switch r.Intn(7) {
		case 0:
			l[i] = l[i].on(l[k].id)
		case 1:
			l[i] = l[i].on(l[i].base)
		case 2:
			l[i] = l[i].as(high(byte(i)))
		case 3:
			l[i] = l[i].as(low(byte(i)))
		case 4:
			l[i].kind = 0
		case 5:
			l[i] = l[i].by(append(slices.Clone(l[i].text), 0)...)
		case 6:
			l[i] = l[i].by(slices.Clone(l[i].text)...)
			if len(l[i].text) > 0 {
				l[i].text[r.Intn(len(l[i].text))]++
			}
		}
	}
	r.Shuffle(n, func(i, k int) { l[i], l[k] = l[k], l[i] })
	return l
}

// opens fails, unless Open answers of bytes as the plain one does; it tells which error that is.
func opens(t *testing.T, b []byte) api.Errno {
	t.Helper()
	want, e := plainOpen(b)
	if e != api.OK {
		refuses(t, b, e)
	} else {
		has(t, b, want)
	}
	return e
}

// P11.2, P11.3, P11.4: packs that were forged, object by object and byte by byte.
func TestOpenPlain(t *testing.T) {
	r := rand.New(rand.NewSource(6))
	met := map[api.Errno]int{}
	for range 8000 {
		b := packed(forged(r)...)
		met[opens(t, b)]++
		b = b[:len(b)-32]
		ending := min(len(b), 1024)
		for range 1 + r.Intn(2) {
			at := r.Intn(len(b) - ending)
			if r.Intn(8) == 0 {
				at = r.Intn(len(b))
			}
			switch r.Intn(4) {
			case 0:
				b[at] = byte(r.Intn(256))
			case 1:
				b[at] += byte(r.Intn(5)) - 2
			case 2:
				b = slices.Delete(b, at, at+1)
			default:
				b = slices.Insert(b, at, byte(r.Intn(256)))
			}
		}
		met[opens(t, sealed(b))]++
	}
	for _, e := range []api.Errno{api.OK, api.ErrForm, api.ErrSum, api.ErrDeep} {
		if met[e] < 100 {
			t.Errorf("error %d only %d times", e, met[e])
		}
	}
}

// P11.3: a pack's ids are in order, those that are not there are missing.
func TestIds(t *testing.T) {
	p, e := pack.Open(packed(sample()...))
	if e != api.OK {
		t.Fatalf("error %d", e)
	}
	want := map[api.Id]have{
		sum("the first one"):             {"the first one", 0},
		sum("the first one's son"):       {"the first one's son", 1},
		sum("the first one's son's son"): {"the first one's son's son", 2},
		sum(""):                          {"", 0}, sum("x"): {"x", 0}, sum("y"): {"y", 1},
	}
	holds(t, p, want)
	lacks(t, p, sum("another"), api.ErrMissing)
}

// P11.3: of a nil pack.
func TestNil(t *testing.T) {
	var p *pack.Pack
	if p.Len() != 0 || len(p.Ids()) != 0 {
		t.Errorf("%d, %v", p.Len(), p.Ids())
	}
	lacks(t, p, sum("x"), api.ErrArg)
	lacks(t, p, api.Id{}, api.ErrArg)
}

// R4: what is handed in is not changed and not kept; what is handed out is new.
func TestMemory(t *testing.T) {
	room := []byte("abcdefgh behind")
	parts := []pack.Part{{room[:8], -1}, {[]byte("abcdefghi"), 0}, part("other", -1)}
	b, e := pack.Build(parts[:2])
	if e != api.OK || string(room) != "abcdefgh behind" || parts[0].Base != -1 || parts[1].Base != 0 || string(parts[2].Bytes) != "other" {
		t.Fatal("changed")
	}
	kept := slices.Clone(b)
	clear(room)
	if !bytes.Equal(b, kept) {
		t.Error("shared with a part")
	}
	wide := append(make([]byte, 0, 2*len(b)), b...)
	p, e := pack.Open(wide)
	if e != api.OK || !bytes.Equal(wide, kept) {
		t.Fatal("changed")
	}
	clear(wide[:cap(wide)])
	want := map[api.Id]have{sum("abcdefgh"): {"abcdefgh", 0}, sum("abcdefghi"): {"abcdefghi", 1}}
	holds(t, p, want)
	clear(p.Ids())
	for id := range want {
		got, _ := p.Get(id)
		clear(got)
		_ = append(got, "more"...)
	}
	holds(t, p, want)
	again, _ := pack.Build([]pack.Part{part("abcdefgh", -1), part("abcdefghi", 0)})
	if !bytes.Equal(again, kept) {
		t.Error("not the same again")
	}
}
