package order_test

import (
	"math"
	"math/rand"
	"slices"
	"sort"
	"testing"

	"variorum/api"
	"variorum/order"
)

// low is the id whose last byte is b.
func low(b byte) (id api.Id) {
	id[31] = b
	return id
}

// ids is a list of ids that end so.
func ids(ends ...byte) []api.Id {
	l := []api.Id{}
	for _, b := range ends {
		l = append(l, low(b))
	}
	return l
}

// some is so many ids, few of them apart, that differ at the first, a middle or the last byte.
func some(chance *rand.Rand, n int) []api.Id {
	l := make([]api.Id, n)
	for i := range l {
		l[i][[]int{0, 15, 31}[chance.Intn(3)]] = []byte{0, 1, 0x7f, 0x80, 0xff}[chance.Intn(5)]
		l[i][16] = byte(chance.Intn(3))
	}
	return l
}

// ahead: does a stand ahead of b, by the chapter's words?
func ahead(a, b api.Id) bool {
	for i := range a {
		if a[i] != b[i] {
			return a[i] < b[i]
		}
	}
	return false
}

// sign is -1, 0 or 1, as the first, none or the second is true.
func sign(less, greater bool) int {
	switch {
	case less:
		return -1
	case greater:
		return 1
	}
	return 0
}

// in is the ids, in order, each once, for which a question is answered by yes.
func in(lists [2][]api.Id, want func(inA, inB bool) bool) []api.Id {
	l := []api.Id{}
	for _, list := range lists {
		for _, id := range list {
			if want(slices.Contains(lists[0], id), slices.Contains(lists[1], id)) && !slices.Contains(l, id) {
				l = append(l, id)
			}
		}
	}
	sort.Slice(l, func(i, j int) bool { return ahead(l[i], l[j]) })
	return l
}

// sameIds: are they the same, empty ones too?
func sameIds(t *testing.T, what string, got, want []api.Id) {
	t.Helper()
	if !slices.Equal(got, want) {
		t.Errorf("%s:\n%x\nwant\n%x", what, got, want)
	}
}

// P4.1: ids by their first byte that differs, bytes from 0 to 255.
func TestCompare(t *testing.T) {
	l := append(some(rand.New(rand.NewSource(4)), 120), low(0), low(255))
	for i := range 32 {
		var id api.Id
		id[i] = 200
		l = append(l, id)
	}
	for _, a := range l {
		for _, b := range l {
			if got := order.Compare(a, b); got != sign(ahead(a, b), ahead(b, a)) {
				t.Fatalf("%x, %x: %d", a, b, got)
			}
		}
	}
	if order.Compare(low(1), low(2)) != -1 || order.Compare(low(2), low(2)) != 0 || order.Compare(low(3), low(2)) != 1 {
		t.Error("1, 2, 3")
	}
}

// keys is keys that differ in each part, at its edges.
func keys() []api.Key {
	l := []api.Key{}
	for _, time := range []int{math.MinInt, -1, 0, 1, math.MaxInt} {
		for _, change := range []api.Id{low(0), low(1), low(255), {1}, {255}} {
			for _, index := range []int{math.MinInt, -1, 0, 1, math.MaxInt} {
				l = append(l, api.Key{Time: time, Change: change, Index: index})
			}
		}
	}
	return l
}

// P4.1: keys by Time, then Change, then Index.
func TestKeys(t *testing.T) {
	l := keys() // in order
	for i, a := range l {
		for j, b := range l {
			if got := order.Keys(a, b); got != sign(i < j, i > j) {
				t.Fatalf("%v, %v: %d", a, b, got)
			}
		}
	}
}

// P4.2: all ids in order, as many of each as there were, from no ids on.
func TestSort(t *testing.T) {
	chance := rand.New(rand.NewSource(5))
	for n := range 130 {
		l := some(chance, n)
		before := slices.Clone(l)
		want := slices.Clone(l)
		sort.Slice(want, func(i, j int) bool { return ahead(want[i], want[j]) })
		sameIds(t, "Sort", order.Sort(l), want)
		sameIds(t, "what was handed in", l, before)
		sameIds(t, "Sort of what is in order", order.Sort(want), want)
	}
	sameIds(t, "Sort", order.Sort(ids(3, 1, 2, 1)), ids(1, 1, 2, 3))
	sameIds(t, "Sort of nil", order.Sort(nil), nil)
}

// P4.2: many ids.
func TestSortMany(t *testing.T) {
	chance := rand.New(rand.NewSource(6))
	l := make([]api.Id, 100000)
	for i := range l {
		chance.Read(l[i][:])
	}
	want := slices.Clone(l)
	sort.Slice(want, func(i, j int) bool { return ahead(want[i], want[j]) })
	if !slices.Equal(order.Sort(l), want) {
		t.Error("100000 ids")
	}
}

// P4.2: places in their keys' order; of the same keys the lesser place first.
func TestSortKeys(t *testing.T) {
	chance := rand.New(rand.NewSource(7))
	all := keys()
	for n := range 130 {
		l := make([]api.Key, n)
		at := make([]int, n) // where in all each one stands
		for i := range l {
			at[i] = chance.Intn(1 + chance.Intn(len(all)))
			l[i] = all[at[i]]
		}
		before := slices.Clone(l)
		want := make([]int, n)
		for i := range want {
			want[i] = i
		}
		sort.Slice(want, func(i, j int) bool {
			a, b := want[i], want[j]
			return at[a] < at[b] || at[a] == at[b] && a < b
		})
		if got := order.SortKeys(l); !slices.Equal(got, want) {
			t.Fatalf("%d keys: %v, want %v", n, got, want)
		}
		if !slices.Equal(l, before) {
			t.Fatal("the keys were changed")
		}
	}
	if got := order.SortKeys(nil); len(got) != 0 {
		t.Errorf("of nil: %v", got)
	}
	if got := order.SortKeys(make([]api.Key, 9)); !slices.Equal(got, []int{0, 1, 2, 3, 4, 5, 6, 7, 8}) {
		t.Errorf("of the same: %v", got)
	}
}

// P4.2: each id once, in order; and whether it is so.
func TestSet(t *testing.T) {
	chance := rand.New(rand.NewSource(8))
	for n := range 60 {
		l := some(chance, n)
		before := slices.Clone(l)
		want := in([2][]api.Id{l}, func(a, _ bool) bool { return a })
		sameIds(t, "Set", order.Set(l), want)
		sameIds(t, "what was handed in", l, before)
		if !order.IsSet(want) || order.IsSet(l) != slices.Equal(l, want) {
			t.Fatalf("IsSet %x", l)
		}
	}
	sameIds(t, "the example", order.Set(ids(2, 1, 2)), ids(1, 2))
	for _, l := range [][]api.Id{nil, {}, ids(7), ids(0), ids(1, 2), ids(0, 1, 2, 255)} {
		if !order.IsSet(l) {
			t.Errorf("%x is one", l)
		}
	}
	for _, l := range [][]api.Id{ids(1, 1), ids(2, 1), ids(1, 2, 2), ids(1, 3, 2), ids(2, 1, 3), ids(0, 0), {{1}, low(1)}} {
		if order.IsSet(l) {
			t.Errorf("%x is none", l)
		}
	}
}

// P4.3: each id is found where it stands, others where they would.
func TestFind(t *testing.T) {
	for n := range 70 {
		var set []api.Id
		for i := range n {
			set = append(set, low(byte(2*i+1)))
		}
		for i := range n {
			if at, ok := order.Find(set, low(byte(2*i+1))); at != i || !ok {
				t.Fatalf("%d of %d: %d, %t", i, n, at, ok)
			}
		}
		for i := range n + 1 {
			if at, ok := order.Find(set, low(byte(2*i))); at != i || ok {
				t.Fatalf("ahead of %d of %d: %d, %t", i, n, at, ok)
			}
		}
		if at, ok := order.Find(set, api.Id{1}); at != n || ok {
			t.Fatalf("behind all of %d: %d, %t", n, at, ok)
		}
	}
	if at, ok := order.Find(ids(1, 3), low(2)); at != 1 || ok {
		t.Errorf("the example: %d, %t", at, ok)
	}
}

// P4.3: in a list that is no set nothing is found, though it is there.
func TestFindNoSet(t *testing.T) {
	for _, l := range [][]api.Id{ids(1, 1), ids(2, 1), ids(1, 2, 2), ids(1, 2, 3, 9, 8), ids(5, 1, 2, 3)} {
		for b := range byte(12) {
			if at, ok := order.Find(l, low(b)); at != 0 || ok {
				t.Errorf("%x, %d: %d, %t", l, b, at, ok)
			}
		}
	}
}

// P4.3: what two lists have together, apart and in common, whatever lists they are.
func TestTwoLists(t *testing.T) {
	chance := rand.New(rand.NewSource(9))
	for range 600 {
		a, b := some(chance, chance.Intn(25)), some(chance, chance.Intn(25))
		if chance.Intn(3) == 0 {
			a, b = order.Set(a), order.Set(b)
		}
		beforeA, beforeB := slices.Clone(a), slices.Clone(b)
		lists := [2][]api.Id{a, b}
		sameIds(t, "Union", order.Union(a, b), in(lists, func(a, b bool) bool { return a || b }))
		sameIds(t, "Minus", order.Minus(a, b), in(lists, func(a, b bool) bool { return a && !b }))
		sameIds(t, "Both", order.Both(a, b), in(lists, func(a, b bool) bool { return a && b }))
		sameIds(t, "the first list", a, beforeA)
		sameIds(t, "the second list", b, beforeB)
	}
	a, b := ids(3, 1, 1, 2), ids(4, 3, 3)
	sameIds(t, "Union", order.Union(a, b), ids(1, 2, 3, 4))
	sameIds(t, "Minus", order.Minus(a, b), ids(1, 2))
	sameIds(t, "Both", order.Both(a, b), ids(3))
	sameIds(t, "Union of none", order.Union(nil, nil), nil)
	sameIds(t, "Union with none", order.Union(nil, a), ids(1, 2, 3))
	sameIds(t, "Minus none", order.Minus(a, nil), ids(1, 2, 3))
	sameIds(t, "none Minus", order.Minus(nil, a), nil)
	sameIds(t, "Minus itself", order.Minus(a, a), nil)
	sameIds(t, "Both with none", order.Both(a, nil), nil)
	sameIds(t, "Both with itself", order.Both(a, a), ids(1, 2, 3))
}

// R4: what is handed out is new memory, and the spare room behind a list's end stays as it was.
func TestNewMemory(t *testing.T) {
	room := ids(1, 2, 3, 9, 9, 9, 9, 9)
	whole := slices.Clone(room)
	l := room[:3]
	answers := [][]api.Id{order.Sort(l), order.Set(l), order.Union(l, nil), order.Union(nil, l), order.Minus(l, nil), order.Both(l, l), order.Union(l, ids(7))}
	for i, a := range answers {
		a[0] = low(100)
		_ = append(a, low(100))
		for _, other := range answers[i+1:] {
			if other[0] != low(1) {
				t.Errorf("answer %d is shared", i)
			}
		}
	}
	sameIds(t, "what was handed in", room, whole)
}
