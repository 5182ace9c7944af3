package dag_test

import (
	"math"
	"math/rand"
	"slices"
	"testing"

	"variorum/api"
	"variorum/dag"
)

// id is the one whose first byte is c.
func id(c byte) api.Id { return api.Id{c} }

// ids is those of the letters of a text.
func ids(s string) []api.Id {
	l := []api.Id{}
	for _, c := range []byte(s) {
		l = append(l, id(c))
	}
	return l
}

// add adds a node, a letter, with its parents, letters too.
func add(t *testing.T, g *dag.Graph, node byte, parents string, stamp int) {
	t.Helper()
	if e := g.Add(id(node), ids(parents), stamp); e != api.OK {
		t.Fatalf("add %c of %q: %d", node, parents, e)
	}
}

// same fails, unless ids are those of a text's letters, without an error.
func same(t *testing.T, what string, want string) func(got []api.Id, e api.Errno) {
	return func(got []api.Id, e api.Errno) {
		t.Helper()
		if e != api.OK || !slices.Equal(got, ids(want)) {
			t.Errorf("%s: %q, %d; want %q", what, letters(got), e, want)
		}
	}
}

// letters is the text of ids' first bytes.
func letters(l []api.Id) string {
	s := ""
	for _, one := range l {
		s += string(rune(one[0]))
	}
	return s
}

// refused fails, unless there is an error, and nothing beside it.
func refused(t *testing.T, what string, want api.Errno) func(got []api.Id, e api.Errno) {
	return func(got []api.Id, e api.Errno) {
		t.Helper()
		if e != want || len(got) != 0 {
			t.Errorf("%s: %q, %d; want %d", what, letters(got), e, want)
		}
	}
}

// diamond is the graph of the examples: b and c of a, d of b and c.
func diamond(t *testing.T) *dag.Graph {
	g := dag.New()
	add(t, g, 'a', "", 1)
	add(t, g, 'b', "a", 2)
	add(t, g, 'c', "a", 3)
	add(t, g, 'd', "bc", 0)
	return g
}

// P19.1: a new graph has no nodes.
func TestNew(t *testing.T) {
	g := dag.New()
	if g == nil || g.Has(id('a')) || g.Has(api.Id{}) || len(g.Ids()) != 0 || len(g.Heads()) != 0 || g.Is(id('a'), id('a')) {
		t.Error("a new graph has nodes")
	}
	add(t, g, 'a', "", 0)
	if dag.New().Has(id('a')) {
		t.Error("another graph has them too")
	}
}

// P19.1: why a node can't be added, the first error first; and that nothing has changed then.
func TestAddErrors(t *testing.T) {
	g := diamond(t)
	for _, c := range []struct {
		what    string
		node    api.Id
		parents []api.Id
		want    api.Errno
	}{
		{"zero", api.Id{}, nil, api.ErrArg},
		{"zero of one that is none", api.Id{}, ids("x"), api.ErrArg},
		{"three parents", id('e'), ids("abc"), api.ErrArg},
		{"the same parent twice", id('e'), ids("aa"), api.ErrArg},
		{"parents out of order", id('e'), ids("ba"), api.ErrArg},
		{"one that is there, of no set", id('a'), ids("ba"), api.ErrArg},
		{"parents that are none and no set", id('e'), ids("yx"), api.ErrArg},
		{"one that is there", id('a'), nil, api.ErrThere},
		{"one that is there, of others", id('d'), ids("a"), api.ErrThere},
		{"one that is there, of one that is none", id('d'), ids("x"), api.ErrThere},
		{"one of itself", id('e'), ids("e"), api.ErrMissing},
		{"one of one that is none", id('e'), ids("x"), api.ErrMissing},
		{"one of one that is, and one that is none", id('e'), ids("ax"), api.ErrMissing},
		{"one of one that is none, and one that is", id('e'), ids("Xa"), api.ErrMissing},
		{"one of zero", id('e'), []api.Id{{}}, api.ErrMissing},
		{"one of zero, and one that is", id('e'), []api.Id{{}, id('a')}, api.ErrMissing},
	} {
		if e := g.Add(c.node, c.parents, 9); e != c.want {
			t.Errorf("%s: %d, not %d", c.what, e, c.want)
		}
	}
	same(t, "the ids", "abcd")(g.Ids(), api.OK)
	same(t, "the heads", "d")(g.Heads(), api.OK)
	same(t, "d's parents", "bc")(g.Parents(id('d')))
	same(t, "d's log", "dcba")(g.Log(id('d')))
	if g.Has(id('e')) || g.Has(api.Id{}) {
		t.Error("a node that was refused is there")
	}
}

// P19.1, P19.2, P19.3: of a nil graph.
func TestNil(t *testing.T) {
	var g *dag.Graph
	if e := g.Add(id('a'), nil, 0); e != api.ErrArg {
		t.Errorf("Add: %d", e)
	}
	if g.Has(id('a')) || g.Is(id('a'), id('a')) || len(g.Ids()) != 0 || len(g.Heads()) != 0 {
		t.Error("a nil graph has nodes")
	}
	refused(t, "Parents", api.ErrArg)(g.Parents(id('a')))
	refused(t, "Past", api.ErrArg)(g.Past(id('a')))
	refused(t, "Bases", api.ErrArg)(g.Bases(id('a'), id('a')))
	refused(t, "Log", api.ErrArg)(g.Log(id('a')))
}

// number is an id that stands in another order than its number does.
func number(n int) api.Id {
	n++ // the zero one is none
	return api.Id{byte(n * 37), byte(n), byte(n >> 8), byte(n >> 16)}
}

// full is a graph with as many nodes as can be, each of the two ahead of it, so that there are far more ways through it than nodes.
func full(t *testing.T) *dag.Graph {
	g := dag.New()
	for n := range api.MaxNodes {
		var parents []api.Id
		for back := 1; back <= 2 && back <= n; back++ {
			parents = append(parents, number(n-back))
		}
		if e := g.Add(number(n), sorted(parents), n); e != api.OK {
			t.Fatalf("node %d: %d", n, e)
		}
	}
	return g
}

func sorted(l []api.Id) []api.Id {
	l = slices.Clone(l)
	slices.SortFunc(l, compare)
	return l
}

func compare(a, b api.Id) int { return slices.Compare(a[:], b[:]) }

// P19.1: as many nodes as there can be, and one more; all questions end.
func TestFull(t *testing.T) {
	g := full(t)
	const last = api.MaxNodes - 1
	more := number(api.MaxNodes)
	for _, c := range []struct {
		node    api.Id
		parents []api.Id
		want    api.Errno
	}{
		{more, nil, api.ErrFull}, {more, []api.Id{number(0)}, api.ErrFull}, {more, []api.Id{more}, api.ErrMissing}, {number(7), nil, api.ErrThere}, {api.Id{}, nil, api.ErrArg},
	} {
		if e := g.Add(c.node, c.parents, 0); e != c.want {
			t.Errorf("Add: %d, not %d", e, c.want)
		}
	}
	if g.Has(more) || len(g.Ids()) != api.MaxNodes {
		t.Errorf("%d nodes", len(g.Ids()))
	}
	if l := g.Heads(); len(l) != 1 || l[0] != number(last) {
		t.Errorf("heads %x", l)
	}
	past, _ := g.Past(number(last))
	if !slices.Equal(past, g.Ids()) {
		t.Error("the last one's past")
	}
	log, _ := g.Log(number(last))
	for i, one := range log {
		if one != number(last-i) {
			t.Fatalf("place %d of the log", i)
		}
	}
	if !g.Is(number(0), number(last)) || g.Is(number(last), number(last-1)) {
		t.Error("the first one in the last one's past")
	}
	if l, e := g.Bases(number(last), number(1000)); e != api.OK || len(l) != 1 || l[0] != number(1000) {
		t.Errorf("bases: %x, %d", l, e)
	}
}

// P19.2: what a graph tells of its nodes.
func TestNodes(t *testing.T) {
	g := diamond(t)
	add(t, g, 'A', "", 5)
	add(t, g, 'B', "Ad", 5)
	for c := range 256 {
		if want := slices.Contains([]byte("abcdAB"), byte(c)); g.Has(id(byte(c))) != want {
			t.Errorf("%c: not %t", c, want)
		}
	}
	same(t, "the ids", "ABabcd")(g.Ids(), api.OK)
	same(t, "the heads", "B")(g.Heads(), api.OK)
	for _, c := range []struct {
		node          byte
		parents, past string
	}{
		{'a', "", "a"}, {'b', "a", "ab"}, {'c', "a", "ac"}, {'d', "bc", "abcd"}, {'A', "", "A"}, {'B', "Ad", "ABabcd"},
	} {
		same(t, "parents", c.parents)(g.Parents(id(c.node)))
		same(t, "past", c.past)(g.Past(id(c.node)))
		for other := range 256 {
			if got, want := g.Is(id(byte(other)), id(c.node)), slices.Contains([]byte(c.past), byte(other)); got != want {
				t.Errorf("%c in %c's past: %t", other, c.node, got)
			}
		}
	}
	for _, one := range []api.Id{{}, id('x'), {'a', 1}} {
		refused(t, "Parents", api.ErrMissing)(g.Parents(one))
		refused(t, "Past", api.ErrMissing)(g.Past(one))
		if g.Is(one, one) || g.Is(id('a'), one) || g.Is(one, id('a')) {
			t.Errorf("%x is no node", one)
		}
	}
}

// P19.2: heads, of which there may be several, are those of which nothing comes any more.
func TestHeads(t *testing.T) {
	g := dag.New()
	for _, c := range []struct {
		node           byte
		parents, heads string
	}{
		{'m', "", "m"}, {'z', "", "mz"}, {'a', "", "amz"}, {'n', "m", "anz"}, {'o', "m", "anoz"}, {'b', "az", "bno"}, {'p', "no", "bp"}, {'q', "m", "bpq"},
	} {
		add(t, g, c.node, c.parents, 0)
		same(t, "heads", c.heads)(g.Heads(), api.OK)
	}
}

// P19.3: the bases of the examples, and of others.
func TestBases(t *testing.T) {
	g := diamond(t)
	add(t, g, 'e', "bc", 0) // a criss-cross with d
	add(t, g, 'f', "de", 0)
	add(t, g, 'g', "d", 0)
	add(t, g, 'A', "", 0)
	add(t, g, 'B', "Aa", 0)
	add(t, g, 'C', "AB", 0) // of one, and of what it comes of
	for _, c := range []struct {
		a, b byte
		want string
	}{
		{'b', 'c', "a"}, {'d', 'b', "b"}, {'d', 'c', "c"}, {'d', 'a', "a"}, {'d', 'd', "d"}, {'a', 'a', "a"},
		{'d', 'e', "bc"}, {'f', 'g', "d"}, {'e', 'g', "bc"}, {'f', 'f', "f"}, {'e', 'f', "e"}, {'g', 'b', "b"},
		{'A', 'a', ""}, {'A', 'f', ""}, {'A', 'A', "A"}, {'B', 'f', "a"}, {'B', 'C', "B"}, {'A', 'C', "A"}, {'C', 'g', "a"},
	} {
		same(t, string([]byte{c.a, c.b}), c.want)(g.Bases(id(c.a), id(c.b)))
		same(t, string([]byte{c.b, c.a}), c.want)(g.Bases(id(c.b), id(c.a)))
	}
	for _, one := range []api.Id{{}, id('x')} {
		refused(t, "Bases", api.ErrMissing)(g.Bases(one, id('a')))
		refused(t, "Bases", api.ErrMissing)(g.Bases(id('a'), one))
		refused(t, "Bases", api.ErrMissing)(g.Bases(one, one))
	}
}

// P19.3: logs: by stamps, the greatest first; of the same stamps by ids; but no node ahead of what comes of it.
func TestLog(t *testing.T) {
	type node struct {
		id      byte
		parents string
		stamp   int
	}
	for _, c := range []struct {
		nodes []node
		want  string // the last one's log
	}{
		{[]node{{'a', "", 0}}, "a"},
		{[]node{{'a', "", 1}, {'b', "a", 2}, {'c', "a", 3}, {'d', "bc", 4}}, "dcba"},
		{[]node{{'a', "", 1}, {'b', "a", 3}, {'c', "a", 2}, {'d', "bc", 4}}, "dbca"},
		{[]node{{'a', "", 1}, {'b', "a", 2}, {'c', "a", 2}, {'d', "bc", 2}}, "dbca"},
		{[]node{{'a', "", 9}, {'b', "a", 1}, {'c', "", 5}, {'d', "bc", 0}}, "dcba"},
		{[]node{{'a', "", 9}, {'b', "a", 6}, {'c', "", 5}, {'d', "bc", 0}}, "dbac"},
		{[]node{{'a', "", 9}, {'b', "a", 6}, {'c', "", 7}, {'d', "bc", 0}}, "dcba"},
		{[]node{{'a', "", math.MinInt}, {'b', "", math.MaxInt}, {'c', "ab", 0}}, "cba"},
		{[]node{{'a', "", math.MaxInt}, {'b', "", math.MinInt}, {'c', "ab", 0}}, "cab"},
		{[]node{{'a', "", -1}, {'b', "", -2}, {'c', "ab", 0}}, "cab"},
		{[]node{{'a', "", 1}, {'x', "", 8}, {'b', "a", 2}, {'c', "ab", 3}}, "cba"}, // a is b's parent, too
		{[]node{{'a', "", 9}, {'b', "a", 2}, {'c', "a", 4}, {'d', "bc", 5}, {'e', "c", 3}, {'f', "de", 1}}, "fdecba"},
	} {
		g := dag.New()
		for _, n := range c.nodes {
			add(t, g, n.id, n.parents, n.stamp)
		}
		same(t, "log", c.want)(g.Log(id(c.nodes[len(c.nodes)-1].id)))
		refused(t, "Log", api.ErrMissing)(g.Log(id('y')))
		refused(t, "Log", api.ErrMissing)(g.Log(api.Id{}))
	}
}

// R4: what is handed in is neither kept nor changed, what is handed out neither.
func TestMemory(t *testing.T) {
	g := diamond(t)
	room := ids("adxx")
	parents := room[:2]
	if e := g.Add(id('e'), parents, 4); e != api.OK || !slices.Equal(room, ids("adxx")) {
		t.Fatalf("Add: %d, %q", e, letters(room))
	}
	clear(room)
	tell := func() [][]api.Id {
		parents, _ := g.Parents(id('e'))
		past, _ := g.Past(id('e'))
		bases, _ := g.Bases(id('e'), id('d'))
		log, _ := g.Log(id('e'))
		return [][]api.Id{parents, past, bases, log, g.Ids(), g.Heads()}
	}
	first := tell()
	for _, l := range first {
		clear(l[:cap(l)])
	}
	for i, want := range []string{"ad", "abcde", "d", "edcba", "abcde", "e"} {
		same(t, "once more", want)(tell()[i], api.OK)
	}
}

// plain is nodes with their parents and stamps, asked as the chapter's words have it.
type plain struct {
	parents map[api.Id][]api.Id
	stamps  map[api.Id]int
}

func (p plain) past(one api.Id) map[api.Id]bool {
	past := map[api.Id]bool{one: true}
	for _, parent := range p.parents[one] {
		for each := range p.past(parent) {
			past[each] = true
		}
	}
	return past
}

func (p plain) bases(a, b api.Id) []api.Id {
	var common, bases []api.Id
	other := p.past(b)
	for one := range p.past(a) {
		if other[one] {
			common = append(common, one)
		}
	}
	for _, one := range common {
		if !slices.ContainsFunc(common, func(o api.Id) bool { return o != one && p.past(o)[one] }) {
			bases = append(bases, one)
		}
	}
	return sorted(bases)
}

func (p plain) log(one api.Id) []api.Id {
	var log []api.Id
	for left := p.past(one); len(left) > 0; {
		var next api.Id
		for each := range left {
			free := true
			for child := range left {
				free = free && !slices.Contains(p.parents[child], each)
			}
			if free && (next == api.Id{} || p.stamps[each] > p.stamps[next] || p.stamps[each] == p.stamps[next] && compare(each, next) < 0) {
				next = each
			}
		}
		log = append(log, next)
		delete(left, next)
	}
	return log
}

// random is a graph and the same plain, with few stamps apart.
func random(t *testing.T, chance *rand.Rand, nodes int) (*dag.Graph, plain, []api.Id) {
	g, p := dag.New(), plain{map[api.Id][]api.Id{}, map[api.Id]int{}}
	var all []api.Id
	for range nodes {
		var one api.Id
		chance.Read(one[:2])
		var parents []api.Id
		for range min(chance.Intn(3), len(all)) {
			parents = append(parents, all[len(all)-1-chance.Intn(min(len(all), 5))])
		}
		parents = slices.Compact(sorted(parents))
		want := api.OK
		if (one == api.Id{}) || slices.Contains(all, one) {
			continue
		}
		stamp := chance.Intn(4)
		if e := g.Add(one, parents, stamp); e != want {
			t.Fatalf("Add: %d", e)
		}
		all = append(all, one)
		p.parents[one], p.stamps[one] = parents, stamp
	}
	return g, p, all
}

// P19.2 to P19.4: random graphs against the plain words.
func TestPlain(t *testing.T) {
	chance := rand.New(rand.NewSource(19))
	for range 150 {
		g, p, all := random(t, chance, 1+chance.Intn(14))
		if !slices.Equal(g.Ids(), sorted(all)) {
			t.Fatalf("ids %x", g.Ids())
		}
		var heads []api.Id
		for _, a := range all {
			past := p.past(a)
			var want []api.Id
			head := true
			for _, b := range all {
				if past[b] {
					want = append(want, b)
				}
				head = head && !slices.Contains(p.parents[b], a)
				if g.Is(b, a) != past[b] {
					t.Fatalf("Is %x, %x", b, a)
				}
				if got, e := g.Bases(a, b); e != api.OK || !slices.Equal(got, p.bases(a, b)) {
					t.Fatalf("bases of %x, %x: %x, %d", a, b, got, e)
				}
			}
			if head {
				heads = append(heads, a)
			}
			if got, e := g.Past(a); e != api.OK || !slices.Equal(got, sorted(want)) {
				t.Fatalf("past of %x: %x, %d", a, got, e)
			}
			if got, e := g.Log(a); e != api.OK || !slices.Equal(got, p.log(a)) {
				t.Fatalf("log of %x: %x, %d; want %x", a, got, e, p.log(a))
			}
			if got, e := g.Parents(a); e != api.OK || !slices.Equal(got, p.parents[a]) {
				t.Fatalf("parents of %x: %x, %d", a, got, e)
			}
		}
		if !slices.Equal(g.Heads(), sorted(heads)) {
			t.Fatalf("heads %x", g.Heads())
		}
	}
}

// P19.4: what follows: pasts go along with the parents', bases of what leads to one another, logs.
func TestFollows(t *testing.T) {
	chance := rand.New(rand.NewSource(4))
	g, p, all := random(t, chance, 200)
	for _, one := range all {
		past, _ := g.Past(one)
		union := []api.Id{one}
		for _, parent := range p.parents[one] {
			more, _ := g.Past(parent)
			union = append(union, more...)
		}
		if !slices.Equal(past, slices.Compact(sorted(union))) {
			t.Fatalf("past of %x", one)
		}
		other := past[chance.Intn(len(past))]
		if l, _ := g.Bases(one, other); len(l) != 1 || l[0] != other {
			t.Fatalf("bases of %x and %x of its past: %x", one, other, l)
		}
		log, _ := g.Log(one)
		if log[0] != one || !slices.Equal(sorted(log), past) {
			t.Fatalf("log of %x", one)
		}
		for i, each := range log {
			for _, parent := range p.parents[each] {
				if slices.Index(log, parent) <= i {
					t.Fatalf("log of %x: %x is not ahead of its parent", one, each)
				}
			}
		}
	}
}
