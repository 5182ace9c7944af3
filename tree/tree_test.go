package tree_test

import (
	"bytes"
	"cmp"
	"math"
	"math/rand"
	"slices"
	"strings"
	"testing"
	"time"

	"variorum/api"
	"variorum/tree"
)

// at is an element of a time, behind the one at a place (-1: at the beginning).
func at(time, parent int, r rune) tree.Node {
	return tree.Node{Key: api.Key{Time: time}, Parent: parent, Rune: r}
}

// dead is the same, but dead.
func dead(n tree.Node) tree.Node {
	n.Dead = true
	return n
}

func compare(a, b api.Key) int {
	return cmp.Or(cmp.Compare(a.Time, b.Time), bytes.Compare(a.Change[:], b.Change[:]), cmp.Compare(a.Index, b.Index))
}

// plainRight: may they be? Put down as the chapter tells it.
func plainRight(l []tree.Node) bool {
	for i, n := range l {
		switch {
		case n.Rune < 0, n.Rune > 0x10ffff, n.Rune >= 0xd800 && n.Rune <= 0xdfff:
			return false
		case n.Parent < -1, n.Parent >= len(l):
			return false
		case n.Parent >= 0 && compare(l[n.Parent].Key, n.Key) >= 0:
			return false
		}
		for _, other := range l[:i] {
			if other.Key == n.Key {
				return false
			}
		}
	}
	return true
}

// plainOrder is the places in order, as the chapter tells it: the children of -1, and behind each its own.
func plainOrder(l []tree.Node, parent int) []int {
	var children []int
	for i, n := range l {
		if n.Parent == parent {
			children = append(children, i)
		}
	}
	slices.SortFunc(children, func(a, b int) int { return compare(l[b].Key, l[a].Key) })
	var places []int
	for _, child := range children {
		places = append(places, child)
		places = append(places, plainOrder(l, child)...)
	}
	return places
}

// stands fails, unless elements that may be stand in this order, and their text and each two of them are as that tells.
func stands(t *testing.T, l []tree.Node, want ...int) {
	t.Helper()
	if !tree.Right(l) {
		t.Errorf("%v: may not be", l)
	}
	if got := tree.Order(l); !slices.Equal(got, want) {
		t.Errorf("%v: %v; want %v", l, got, want)
	}
	var text strings.Builder
	for i, a := range want {
		if !l[a].Dead {
			text.WriteRune(l[a].Rune)
		}
		for k, b := range want {
			if n, ok := tree.Compare(l, a, b); n != cmp.Compare(i, k) || !ok {
				t.Errorf("%v: %d and %d: %d, %v; want %d", l, a, b, n, ok, cmp.Compare(i, k))
			}
		}
	}
	if got := tree.Text(l); got != text.String() {
		t.Errorf("%v: %q; want %q", l, got, text.String())
	}
	outside(t, l)
}

// outside fails, unless what is no place of the list is told to be none.
func outside(t *testing.T, l []tree.Node) {
	t.Helper()
	places := []int{math.MinInt, -2, -1, len(l), len(l) + 1, math.MaxInt}
	for _, a := range places {
		for _, b := range append(places, 0, len(l)-1) {
			for _, pair := range [][2]int{{a, b}, {b, a}} {
				if n, ok := tree.Compare(l, pair[0], pair[1]); n != 0 || ok {
					t.Errorf("%v: %v: %d, %v", l, pair, n, ok)
				}
			}
		}
	}
}

// wrong fails, unless elements are told to be such as may not be.
func wrong(t *testing.T, l ...tree.Node) {
	t.Helper()
	if tree.Right(l) {
		t.Errorf("%v: may be", l)
	}
	if got := tree.Order(l); len(got) > 0 {
		t.Errorf("%v: order %v", l, got)
	}
	if got := tree.Text(l); got != "" {
		t.Errorf("%v: text %q", l, got)
	}
	for a := range l {
		for b := range l {
			if n, ok := tree.Compare(l, a, b); n != 0 || ok {
				t.Errorf("%v: %d and %d: %d, %v", l, a, b, n, ok)
			}
		}
	}
	outside(t, l)
}

// The examples of the chapter.
func TestExamples(t *testing.T) {
	l := []tree.Node{at(1, -1, 'a'), at(2, 0, 'b'), at(3, 0, 'c')}
	stands(t, l, 0, 2, 1)
	if s := tree.Text(l); s != "acb" {
		t.Errorf("%q", s)
	}
	l[1].Dead = true
	stands(t, l, 0, 2, 1)
	if s := tree.Text(l); s != "ac" {
		t.Errorf("%q", s)
	}
}

// P12.1: few elements, and none.
func TestFew(t *testing.T) {
	stands(t, nil)
	stands(t, []tree.Node{})
	stands(t, []tree.Node{at(1, -1, 'a')}, 0)
	stands(t, []tree.Node{dead(at(1, -1, 'a'))}, 0)
	stands(t, []tree.Node{at(0, -1, 'a')}, 0)
	stands(t, []tree.Node{at(1, -1, 'a'), at(2, -1, 'b')}, 1, 0)
	stands(t, []tree.Node{at(2, -1, 'a'), at(1, -1, 'b')}, 0, 1)
	stands(t, []tree.Node{at(2, 1, 'a'), at(1, -1, 'b')}, 1, 0) // the parent stands behind it in the list
	stands(t, []tree.Node{at(1, -1, 'a'), at(2, 0, 'b'), at(3, 1, 'c')}, 0, 1, 2)
	stands(t, []tree.Node{at(3, 1, 'a'), at(2, 2, 'b'), at(1, -1, 'c')}, 2, 1, 0)
	stands(t, []tree.Node{at(1, -1, 'a'), at(2, -1, 'b'), at(3, 0, 'c')}, 1, 0, 2) // what is below a child stands ahead of its sibling, not among them
	stands(t, []tree.Node{at(1, -1, 'a'), at(2, 0, 'b'), at(3, -1, 'c'), at(4, 0, 'd'), at(5, 1, 'e')}, 2, 0, 3, 1, 4)
	stands(t, []tree.Node{dead(at(1, -1, 'a')), at(2, 0, 'b'), dead(at(3, 0, 'c')), at(4, 2, 'd')}, 0, 2, 3, 1) // below dead ones
}

// P12.1: siblings stand by their times, then changes, then indexes, the last first.
func TestKeys(t *testing.T) {
	keys := []api.Key{ // from the first to the last
		{Time: math.MinInt, Change: api.Id{255}, Index: 9},
		{Time: -1, Change: api.Id{255}, Index: 9},
		{Time: 0, Change: api.Id{}, Index: math.MinInt},
		{Time: 0, Change: api.Id{}, Index: -1},
		{},
		{Time: 0, Change: api.Id{}, Index: math.MaxInt},
		{Time: 0, Change: api.Id{31: 1}, Index: -5},
		{Time: 0, Change: api.Id{31: 2}, Index: 0},
		{Time: 0, Change: api.Id{0: 1}, Index: 0},
		{Time: 0, Change: api.Id{0: 128}, Index: 0},
		{Time: 1, Change: api.Id{}, Index: -9},
		{Time: 1 << 40, Change: api.Id{}, Index: 0},
		{Time: math.MaxInt, Change: api.Id{}, Index: -9},
	}
	for i, first := range keys {
		wrong(t, tree.Node{Key: first, Parent: -1}, tree.Node{Key: first, Parent: -1})
		for _, last := range keys[i+1:] {
			stands(t, []tree.Node{{Key: first, Parent: -1}, {Key: last, Parent: -1}}, 1, 0)
			stands(t, []tree.Node{{Key: last, Parent: -1}, {Key: first, Parent: -1}}, 0, 1)
			stands(t, []tree.Node{{Key: first, Parent: -1}, {Key: last, Parent: 0}}, 0, 1)
			wrong(t, tree.Node{Key: last, Parent: -1}, tree.Node{Key: first, Parent: 0}) // a parent behind it
		}
	}
	var l []tree.Node
	var want []int
	for i, key := range keys {
		l = append(l, tree.Node{Key: key, Parent: -1, Rune: rune('a' + i)})
		want = append(want, len(keys)-1-i)
	}
	stands(t, l, want...)
}

// P12.1: elements that may not be.
func TestWrong(t *testing.T) {
	a, b := at(1, -1, 'a'), at(2, 0, 'b')
	stands(t, []tree.Node{a, b}, 0, 1)
	for _, parent := range []int{math.MinInt, -3, -2, 1, 2, 3, math.MaxInt} {
		wrong(t, a, at(2, parent, 'b'))
		wrong(t, at(1, parent, 'a'), at(2, -1, 'b'))
		wrong(t, at(1, parent, 'a'))
		wrong(t, at(1, -1, 'a'), dead(at(2, parent, 'b')))
	}
	wrong(t, at(1, 0, 'a'))
	wrong(t, at(1, 1, 'a'), at(2, 0, 'b'))                          // they come round
	wrong(t, at(1, 2, 'a'), at(2, 0, 'b'), at(3, 1, 'c'))           // likewise
	wrong(t, at(2, -1, 'a'), at(1, 0, 'b'))                         // a parent behind it
	wrong(t, at(2, -1, 'a'), at(2, 0, 'b'))                         // with its key
	wrong(t, at(2, -1, 'a'), at(2, -1, 'b'))                        // two with one key
	wrong(t, a, b, at(3, 1, 'c'), at(2, -1, 'd'))                   // likewise
	wrong(t, a, b, at(3, 1, 'c'), dead(at(3, 0, 'd')))              // dead ones, too
	wrong(t, dead(a), dead(b), at(3, 1, 'c'), dead(at(1, -1, 'a'))) // likewise
	wrong(t, append(slices.Repeat([]tree.Node{a}, 3), at(4, 0, 'e'))...)
}

// P12.1: which runes may be, of live and of dead ones.
func TestRunes(t *testing.T) {
	for _, r := range []rune{0, 'a', 0x7f, 0x80, 0x7ff, 0x800, 0xd7ff, 0xe000, 0xfffd, 0xffff, 0x10000, 0x10ffff} {
		stands(t, []tree.Node{at(1, -1, r)}, 0)
		stands(t, []tree.Node{at(1, -1, 'x'), at(2, 0, r), at(3, 1, 'y')}, 0, 1, 2)
		stands(t, []tree.Node{dead(at(1, -1, r))}, 0)
		if s := tree.Text([]tree.Node{at(1, -1, r)}); s != string(r) {
			t.Errorf("%x: %q", r, s)
		}
	}
	for _, r := range []rune{math.MinInt32, -1, 0xd800, 0xdabc, 0xdfff, 0x110000, math.MaxInt32} {
		wrong(t, at(1, -1, r))
		wrong(t, dead(at(1, -1, r)))
		wrong(t, at(1, -1, 'a'), at(2, 0, 'b'), dead(at(3, 1, r)))
		wrong(t, at(1, -1, r), at(2, 0, 'b'), at(3, 1, 'c'))
	}
}

// random is some elements that may be, in whichever order.
func random(r *rand.Rand, n int) []tree.Node {
	var keys []api.Key
	for len(keys) < n {
		key := api.Key{Time: r.Intn(4), Index: r.Intn(4)}
		key.Change[r.Intn(32)] = byte(r.Intn(3))
		if r.Intn(10) == 0 {
			key.Index = -r.Intn(100)
		}
		if !slices.Contains(keys, key) {
			keys = append(keys, key)
		}
	}
	slices.SortFunc(keys, compare)
	places := r.Perm(n) // of each key, from the first on
	near := 1 + r.Intn(n+1)
	l := make([]tree.Node, n)
	for i, key := range keys {
		parent := -1
		if from := max(-1, i-near); i > 0 {
			if k := from + r.Intn(i-from); k >= 0 {
				parent = places[k]
			}
		}
		l[places[i]] = tree.Node{Key: key, Parent: parent, Rune: []rune("aéα€𝄞")[r.Intn(5)], Dead: r.Intn(4) == 0}
	}
	return l
}

// P12.1, P12.2: as the chapter tells it, of random elements.
func TestPlain(t *testing.T) {
	r := rand.New(rand.NewSource(1))
	for range 3000 {
		l := random(r, r.Intn(16))
		stands(t, l, plainOrder(l, -1)...)
	}
	l := random(r, 150)
	stands(t, l, plainOrder(l, -1)...)
}

// P12.1, P12.2: of random elements, one of which was changed.
func TestPlainRight(t *testing.T) {
	r := rand.New(rand.NewSource(2))
	right := 0
	for range 10000 {
		l := random(r, 1+r.Intn(8))
		n := &l[r.Intn(len(l))]
		switch r.Intn(4) {
		case 0:
			n.Parent = r.Intn(len(l)+3) - 2
		case 1:
			n.Key = l[r.Intn(len(l))].Key
		case 2:
			n.Key.Time = r.Intn(5) - 1
		default:
			n.Rune = rune(0xd7f0 + r.Intn(0x820))
		}
		if plainRight(l) {
			right++
			stands(t, l, plainOrder(l, -1)...)
		} else {
			wrong(t, l...)
		}
	}
	if right < 1000 || right > 9000 {
		t.Errorf("%d may be", right)
	}
}

// some is those of the elements that are told to be taken, with their parents, and each one's place among all.
func some(l []tree.Node, taken func(place int) bool) (part []tree.Node, places []int) {
	number := map[int]int{-1: -1}
	var take func(place int)
	take = func(place int) {
		if _, met := number[place]; met {
			return
		}
		take(l[place].Parent)
		n := l[place]
		n.Parent = number[n.Parent]
		number[place] = len(part)
		part, places = append(part, n), append(places, place)
	}
	for i := range l {
		if taken(i) {
			take(i)
		}
	}
	return part, places
}

// P12.3: the order of some is that of all, without the others.
func TestSome(t *testing.T) {
	r := rand.New(rand.NewSource(3))
	for range 2000 {
		l := random(r, r.Intn(30))
		part, places := some(l, func(int) bool { return r.Intn(3) == 0 })
		var got []int
		for _, i := range tree.Order(part) {
			got = append(got, places[i])
		}
		want := slices.DeleteFunc(tree.Order(l), func(place int) bool { return !slices.Contains(places, place) })
		if !slices.Equal(got, want) {
			t.Fatalf("%v: %v; want %v", l, got, want)
		}
	}
}

// P12.3: an element whose key is the last of all stands right behind its parent.
func TestLast(t *testing.T) {
	r := rand.New(rand.NewSource(4))
	for range 1000 {
		l := random(r, r.Intn(20))
		parent := r.Intn(len(l)+1) - 1
		got := tree.Order(append(slices.Clone(l), at(9, parent, 'x')))
		want := tree.Order(l)
		want = slices.Insert(want, slices.Index(want, parent)+1, len(l)) // of -1 at the beginning
		if !slices.Equal(got, want) {
			t.Fatalf("%v: behind %d: %v; want %v", l, parent, got, want)
		}
	}
}

// R1, P12.1, P12.2: many elements: one behind the other, all of one parent, each with a sibling; in whichever order they stand in the list.
func TestMany(t *testing.T) {
	const n = 1 << 16
	r := rand.New(rand.NewSource(6))
	begun := time.Now()
	for _, parent := range []func(i int) int{
		func(i int) int { return i - 1 },
		func(i int) int { return -1 },
		func(i int) int { return max(i, 1) - 1 - (i+1)%2 }, // of two siblings the first one in the order has children
		func(i int) int { return max(-1, i-2-(i+1)%2) },    // the other one has
		func(i int) int { return (i+1)/2 - 1 },
	} {
		l := make([]tree.Node, n)
		back := make([]tree.Node, n) // the same, the last key first in the list
		for i := range n {
			l[i] = at(i+1, parent(i), 'a'+rune(i%26))
			back[n-1-i] = at(i+1, n-1-parent(i), 'a'+rune(i%26))
			if parent(i) == -1 {
				back[n-1-i].Parent = -1
			}
		}
		var want []int // by keys, from the first on, each put behind its parent
		next := make([]int, n+1)
		next[0] = n + 1
		for i := range n {
			next[i+1], next[parent(i)+1] = next[parent(i)+1], i+1
		}
		for i := next[0]; i != n+1; i = next[i] {
			want = append(want, i-1)
		}
		got := tree.Order(l)
		if !slices.Equal(got, want) {
			t.Errorf("%.20v; want %.20v", got, want)
		}
		if s := tree.Text(l); len(s) != n || s != tree.Text(back) {
			t.Errorf("%.40q", s)
		}
		for range 20 {
			a, b := r.Intn(n), r.Intn(n)
			if c, ok := tree.Compare(l, a, b); !ok || c != cmp.Compare(slices.Index(want, a), slices.Index(want, b)) {
				t.Errorf("%d and %d: %d, %v", a, b, c, ok)
			}
		}
	}
	if d := time.Since(begun); d > time.Minute {
		t.Errorf("%v", d)
	}
}

// R4: what is handed in is not changed, the room behind it neither; what is handed out is new.
func TestMemory(t *testing.T) {
	r := rand.New(rand.NewSource(5))
	room := append(random(r, 20), at(7, 7, -1), at(7, 99, 'x'))
	l, kept := room[:20], slices.Clone(room)
	for range 2 {
		clear(tree.Order(l))
		stands(t, l, plainOrder(l, -1)...)
		if !slices.Equal(room, kept) {
			t.Fatal("changed")
		}
	}
}
