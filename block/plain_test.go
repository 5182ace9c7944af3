package block_test

import (
	"bytes"
	"cmp"
	"math/rand"
	"slices"
	"strings"
	"testing"
	"unicode/utf8"

	"variorum/api"
	"variorum/block"
	"variorum/tree"
)

// element is one, put down as the chapters 12 and 13 tell it.
type element struct {
	key, parent api.Key
	first       bool // it was inserted at the beginning
	r           rune
	dead        bool
}

// plain is a document, element by element, in the order in which they came.
type plain []element

func compare(a, b api.Key) int {
	return cmp.Or(cmp.Compare(a.Time, b.Time), bytes.Compare(a.Change[:], b.Change[:]), cmp.Compare(a.Index, b.Index))
}

func (p plain) find(key api.Key) int {
	return slices.IndexFunc(p, func(e element) bool { return e.key == key })
}

func (p *plain) insert(key, at api.Key, first bool, s string) api.Errno {
	n := utf8.RuneCountInString(s)
	if !utf8.ValidString(s) || n == 0 || key.Index < 0 || key.Index > 1<<31-n {
		return api.ErrArg
	}
	if !first && p.find(at) < 0 {
		return api.ErrMissing
	}
	if !first && compare(at, key) >= 0 {
		return api.ErrTime
	}
	var l plain
	for _, r := range s {
		if p.find(key) >= 0 {
			return api.ErrThere
		}
		l = append(l, element{key: key, parent: at, first: first, r: r})
		first, at = false, key
		key.Index++
	}
	*p = append(*p, l...)
	return api.OK
}

func (p plain) delete(key api.Key, n int) api.Errno {
	if n < 1 {
		return api.ErrArg
	}
	var places []int
	for range n {
		place := p.find(key)
		if place < 0 {
			return api.ErrMissing
		}
		places = append(places, place)
		key.Index++
	}
	for _, place := range places {
		p[place].dead = true
	}
	return api.OK
}

// below is what stands below a parent, in order: the last key first.
func (p plain) below(parent api.Key, first bool) plain {
	var children plain
	for _, e := range p {
		if e.first == first && (first || e.parent == parent) {
			children = append(children, e)
		}
	}
	slices.SortFunc(children, func(a, b element) int { return compare(b.key, a.key) })
	var l plain
	for _, e := range children {
		l = append(append(l, e), p.below(e.key, false)...)
	}
	return l
}

// pieces is the pieces of elements in order.
func (p plain) pieces() []block.Piece {
	var l []block.Piece
	for i, e := range p {
		if e.dead {
			continue
		}
		ahead := e.key
		ahead.Index--
		if i > 0 && !p[i-1].dead && p[i-1].key == ahead {
			l[len(l)-1].N++
			l[len(l)-1].Text += string(e.r)
		} else {
			l = append(l, block.Piece{Key: e.key, N: 1, Text: string(e.r)})
		}
	}
	return l
}

// is fails, unless a document is as its elements, which are put down plainly, tell; others are keys of none.
func is(t *testing.T, d *block.Doc, p plain, others ...api.Key) {
	t.Helper()
	l := p.below(api.Key{}, true)
	if len(l) != len(p) {
		t.Fatalf("%d of %d elements stand in the order", len(l), len(p))
	}
	var text strings.Builder
	place := 0
	for _, e := range l {
		got, live, err := d.Find(e.key)
		if got != place || live == e.dead || err != api.OK {
			t.Errorf("%v: place %d, live %v, error %d; want %d, %v", e.key, got, live, err, place, !e.dead)
		}
		if e.dead {
			continue
		}
		if key, err := d.At(place); key != e.key || err != api.OK {
			t.Errorf("at %d: %v, error %d; want %v", place, key, err, e.key)
		}
		text.WriteRune(e.r)
		place++
	}
	if d.Text() != text.String() || d.Len() != place || d.Size() != len(p) {
		t.Errorf("%q, %d live of %d; want %q, %d of %d", d.Text(), d.Len(), d.Size(), text.String(), place, len(p))
	}
	if got, want := d.Pieces(), l.pieces(); !slices.Equal(got, want) {
		t.Errorf("%v; want %v", got, want)
	}
	none(t, d, place)
	for _, key := range others {
		if got, live, err := d.Find(key); p.find(key) < 0 && (got != 0 || live || err != api.ErrMissing) {
			t.Errorf("%v: place %d, live %v, error %d", key, got, live, err)
		}
	}
}

// none fails, unless no live element stands at a place that none can have.
func none(t *testing.T, d *block.Doc, n int) {
	t.Helper()
	for _, place := range []int{-1 << 63, -2, -1, n, n + 1, 1<<63 - 1} {
		if key, err := d.At(place); key != (api.Key{}) || err != api.ErrNone {
			t.Errorf("at %d: %v, error %d", place, key, err)
		}
	}
}

// maker makes random acts: few keys, so that they meet.
type maker struct {
	*rand.Rand
	d *block.Doc
	p plain
}

func (m *maker) key() api.Key {
	key := api.Key{Time: m.Intn(3), Index: m.Intn(8)}
	switch m.Intn(20) {
	case 0:
		key.Time = []int{-1 << 63, -1, 1<<63 - 1}[m.Intn(3)]
	case 1:
		key.Index = []int{-1 << 63, -1, 1<<31 - 3, 1<<31 - 2, 1<<31 - 1, 1 << 31, 1<<63 - 1}[m.Intn(7)]
	}
	key.Change[[]int{0, 17, 31}[m.Intn(3)]] = []byte{0, 1, 255}[m.Intn(3)]
	return key
}

// met is mostly an element's key, sometimes one near it.
func (m *maker) met() api.Key {
	if len(m.p) == 0 || m.Intn(8) == 0 {
		return m.key()
	}
	key := m.p[m.Intn(len(m.p))].key
	key.Index += max(0, m.Intn(6)-4)
	return key
}

func (m *maker) text() string {
	if m.Intn(30) == 0 {
		return []string{"", "\xff", "a\xc0\x80", "\xed\xa0\x80"}[m.Intn(4)]
	}
	var s strings.Builder
	for range 1 + m.Intn(5) {
		s.WriteRune([]rune{0, 'a', 'b', 'é', '€', 0xfffd, 0x1d11e}[m.Intn(7)])
	}
	return s.String()
}

// act does something to both, and fails, unless both answer the same error, which is the answer.
func (m *maker) act(t *testing.T) api.Errno {
	t.Helper()
	var got, want api.Errno
	if m.Intn(3) > 0 {
		key, at, first, s := m.met(), m.met(), m.Intn(4) == 0, m.text()
		if m.Intn(2) == 0 {
			key = m.key()
		}
		got, want = m.d.Insert(key, at, first, s), m.p.insert(key, at, first, s)
	} else {
		key, n := m.met(), []int{0, 1, 1, 2, 3, 5, -1}[m.Intn(7)]
		got, want = m.d.Delete(key, n), m.p.delete(key, n)
	}
	if got != want {
		t.Fatalf("error %d; want %d", got, want)
	}
	return got
}

// P13.1 to P13.4, R2: random acts, the document told whole after each, those with errors too.
func TestPlain(t *testing.T) {
	r := rand.New(rand.NewSource(1))
	met := map[api.Errno]int{}
	for range 400 {
		m := &maker{r, block.New(), nil}
		for range 40 {
			met[m.act(t)]++
			is(t, m.d, m.p, m.key(), m.key(), m.met())
			if t.Failed() {
				t.FailNow()
			}
		}
	}
	for _, e := range []api.Errno{api.OK, api.ErrArg, api.ErrMissing, api.ErrTime, api.ErrThere} {
		if met[e] < 100 {
			t.Errorf("error %d but %d times", e, met[e])
		}
	}
}

// P13.4, R4: a copy has nothing to do with what it was made of.
func TestPlainCopy(t *testing.T) {
	r := rand.New(rand.NewSource(2))
	for range 100 {
		a := &maker{r, block.New(), nil}
		for range r.Intn(20) {
			a.act(t)
		}
		b := &maker{r, a.d.Copy(), slices.Clone(a.p)}
		is(t, b.d, b.p)
		for range 20 {
			a.act(t)
			is(t, b.d, b.p)
			b.act(t)
			is(t, a.d, a.p)
			is(t, b.d, b.p)
			if t.Failed() {
				t.FailNow()
			}
		}
	}
}

// P13.3, P4: the order is layer 12's, in whichever order the elements come, their parents ahead of them.
func TestTree(t *testing.T) {
	r := rand.New(rand.NewSource(3))
	for range 300 {
		m := &maker{r, block.New(), nil}
		for range 25 {
			m.act(t)
		}
		var l []tree.Node
		for _, e := range m.p {
			parent := -1
			if !e.first {
				parent = m.p.find(e.parent)
			}
			l = append(l, tree.Node{Key: e.key, Parent: parent, Rune: e.r, Dead: e.dead})
		}
		if got, want := m.d.Text(), tree.Text(l); got != want {
			t.Fatalf("%q; want %q", got, want)
		}
		again(t, r, m, tree.Order(l))
	}
}

// again inserts elements one by one, in another order, and fails, unless the document is the same.
func again(t *testing.T, r *rand.Rand, m *maker, places []int) {
	t.Helper()
	d := block.New()
	left := r.Perm(len(places))
	for len(left) > 0 {
		var later []int
		for _, i := range left {
			e := m.p[i]
			switch err := d.Insert(e.key, e.parent, e.first, string(e.r)); {
			case err == api.ErrMissing:
				later = append(later, i)
			case err != api.OK:
				t.Fatalf("%v: error %d", e, err)
			case e.dead:
				d.Delete(e.key, 1)
			}
		}
		left = later
	}
	var keys []api.Key
	for place := range d.Len() {
		key, _ := d.At(place)
		keys = append(keys, key)
	}
	var want []api.Key
	for _, place := range places {
		if !m.p[place].dead {
			want = append(want, m.p[place].key)
		}
	}
	if !slices.Equal(keys, want) || d.Text() != m.d.Text() || d.Size() != m.d.Size() || !slices.Equal(d.Pieces(), m.d.Pieces()) {
		t.Fatalf("%q of %d; want %q of %d", d.Text(), d.Size(), m.d.Text(), m.d.Size())
	}
}
