package state_test

import (
	"fmt"
	"slices"
	"strings"
	"testing"
	"time"

	"variorum/api"
	"variorum/object"
	"variorum/state"
)

// own is a ref to what the change itself has made.
func own(index int) api.Ref { return api.Ref{Index: index} }

func of(id api.Id, index int) api.Ref { return api.Ref{Change: id, Index: index} }

func create(path string) api.Op { return api.Op{Kind: api.OCreate, Path: path} }

func insert(doc, at api.Ref, text string) api.Op {
	return api.Op{Kind: api.OInsert, Doc: doc, At: at, Text: text}
}

func drop(doc, at api.Ref, count int) api.Op {
	return api.Op{Kind: api.ODelete, Doc: doc, At: at, Count: count}
}

func rename(doc api.Ref, path string) api.Op {
	return api.Op{Kind: api.ORename, Doc: doc, Path: path}
}

func remove(doc api.Ref) api.Op { return api.Op{Kind: api.ORemove, Doc: doc} }

func run(id api.Id, author, text string) api.Run {
	return api.Run{Change: id, Author: author, Text: text}
}

// by is a change of an author that hangs on all to which its operations have refs.
func by(author string, time int, ops ...api.Op) api.Change {
	c := api.Change{Time: time, Author: author, Ops: ops}
	for _, op := range ops {
		c.Deps = append(c.Deps, op.Doc.Change, op.At.Change)
	}
	slices.SortFunc(c.Deps, func(a, b api.Id) int { return strings.Compare(string(a[:]), string(b[:])) })
	c.Deps = slices.DeleteFunc(slices.Compact(c.Deps), func(id api.Id) bool { return id == api.Id{} })
	return c
}

func ann(time int, ops ...api.Op) api.Change { return by("Ann", time, ops...) }

// sum is a change's id, if it may be.
func sum(c api.Change) api.Id {
	id, _ := object.Id(api.Object{Kind: api.KChange, Change: c})
	return id
}

// add adds a change, and fails, unless that may be. It tells its id.
func add(t *testing.T, s *state.State, c api.Change) api.Id {
	t.Helper()
	if e := s.Add(sum(c), c); e != api.OK {
		t.Fatalf("%v: error %d", c, e)
	}
	return sum(c)
}

// refused fails, unless a change is refused with that error.
func refused(t *testing.T, s *state.State, c api.Change, want api.Errno) {
	t.Helper()
	if e := s.Add(sum(c), c); e != want {
		t.Errorf("%v: error %d; want %d", c, e, want)
	}
}

// comes fails, unless a state's files are these: paths and texts in turn.
func comes(t *testing.T, s *state.State, want ...string) {
	t.Helper()
	var got []string
	for _, f := range s.Files() {
		got = append(got, f.Path, f.Bytes)
	}
	if !slices.Equal(got, want) {
		t.Errorf("%q; want %q", got, want)
	}
}

// The examples of the chapter.
func TestExamples(t *testing.T) {
	s := state.New()
	hi := ann(1, create("a"), insert(own(0), own(0), "hi"))
	one := add(t, s, hi)
	comes(t, s, "a", "hi")
	if l, e := s.Blame("a"); !slices.Equal(l, []api.Run{{Change: one, Author: "Ann", Text: "hi"}}) || e != api.OK {
		t.Errorf("%v, %d", l, e)
	}
	is(t, s, changes{one: hi})
	mark := by("Bob", 2, insert(of(one, 0), of(one, 2), "!"))
	two := add(t, s, mark)
	comes(t, s, "a", "hi!")
	if l, e := s.Blame("a"); !slices.Equal(l, []api.Run{{Change: one, Author: "Ann", Text: "hi"}, {Change: two, Author: "Bob", Text: "!"}}) || e != api.OK {
		t.Errorf("%v, %d", l, e)
	}
	is(t, s, changes{one: hi, two: mark})
}

// P15.1, P15.2: a state without changes.
func TestNew(t *testing.T) {
	s := state.New()
	is(t, s, nil)
	comes(t, s)
	if c, e := s.Change(api.Id{}); s.Has(api.Id{}) || !same(c, api.Change{}) || e != api.ErrMissing {
		t.Errorf("%v, %d", c, e)
	}
	add(t, state.New(), ann(1, create("a")))
	is(t, s, nil) // each is one of its own
}

// P15.1: the errors, each with all later ones beside it that may be, and none of them a change.
func TestAddErrors(t *testing.T) {
	s := state.New()
	one := ann(5, create("a"), insert(own(0), own(0), "hi"))
	first := add(t, s, one)
	two := ann(9, insert(of(first, 0), of(first, 1), "x"))
	second := add(t, s, two)
	nowhere := api.Id{1}
	all := []api.Id{first, second, nowhere}
	slices.SortFunc(all, func(a, b api.Id) int { return strings.Compare(string(a[:]), string(b[:])) })
	there := all[slices.IndexFunc(all, func(id api.Id) bool { return id == nowhere })+1:] // behind nowhere
	if len(there) != 2 {
		t.Fatalf("%x", all)
	}

	wrong := api.Change{Time: 1, Deps: []api.Id{nowhere}, Author: "", Ops: []api.Op{remove(of(nowhere, 0))}}
	long := ann(1, slices.Repeat([]api.Op{create(strings.Repeat("a", 64))}, 4096)...)
	missing := api.Change{Time: 1, Deps: all, Author: "Ann", Ops: []api.Op{remove(of(first, 7))}}
	late := api.Change{Time: 5, Deps: there, Author: "Ann", Ops: []api.Op{remove(of(first, 7))}}
	useless := ann(6, remove(of(first, 7)))
	for _, c := range []struct {
		id     api.Id
		change api.Change
		e      api.Errno
	}{
		{api.Id{}, api.Change{}, api.ErrArg},
		{first, api.Change{}, api.ErrArg},
		{first, wrong, api.ErrArg},
		{nowhere, wrong, api.ErrArg},
		{first, long, api.ErrLong},
		{api.Id{}, long, api.ErrLong},
		{first, two, api.ErrSum},
		{second, one, api.ErrSum},
		{nowhere, one, api.ErrSum},
		{api.Id{}, one, api.ErrSum},
		{first, missing, api.ErrSum},
		{nowhere, late, api.ErrSum},
		{nowhere, useless, api.ErrSum},
		{first, one, api.ErrThere},
		{second, two, api.ErrThere},
		{sum(missing), missing, api.ErrMissing},
		{sum(late), late, api.ErrTime},
		{sum(useless), useless, api.ErrUse},
	} {
		if e := s.Add(c.id, c.change); e != c.e {
			t.Errorf("%x: %.60v: error %d; want %d", c.id, c.change, e, c.e)
		}
		is(t, s, changes{first: one, second: two})
		var none *state.State
		if e := none.Add(c.id, c.change); e != api.ErrArg {
			t.Errorf("nil: error %d", e)
		}
	}
}

// P15.1: each of the Deps must be there, and have a lesser time, be there a ref to it or not.
func TestAddDeps(t *testing.T) {
	s := state.New()
	one, two := ann(1, create("a")), ann(3, create("b"))
	l := []api.Id{add(t, s, one), add(t, s, two)}
	other := ann(9, create("c"))
	slices.SortFunc(l, func(a, b api.Id) int { return strings.Compare(string(a[:]), string(b[:])) })
	on := func(time int, deps ...api.Id) api.Change {
		slices.SortFunc(deps, func(a, b api.Id) int { return strings.Compare(string(a[:]), string(b[:])) })
		return api.Change{Time: time, Deps: deps, Author: "Bob", Ops: []api.Op{create("d")}}
	}
	for _, deps := range [][]api.Id{{sum(other)}, {sum(other), l[0]}, {sum(other), l[1]}, {sum(other), l[0], l[1]}} {
		refused(t, s, on(1, deps...), api.ErrMissing)
		refused(t, s, on(99, deps...), api.ErrMissing)
	}
	for time := 1; time < 6; time++ {
		for i, dep := range []api.Id{sum(one), sum(two)} {
			want := map[bool]api.Errno{true: api.OK, false: api.ErrTime}[time > 1+2*i]
			if e := s.Copy().Add(sum(on(time, dep)), on(time, dep)); e != want {
				t.Errorf("time %d, dep %d: error %d", time, i, e)
			}
		}
		want := map[bool]api.Errno{true: api.OK, false: api.ErrTime}[time > 3]
		if e := s.Copy().Add(sum(on(time, l...)), on(time, l...)); e != want {
			t.Errorf("time %d: error %d", time, e)
		}
	}
	is(t, s, changes{sum(one): one, sum(two): two})
	last := on(api.MaxTime, l...)
	is(t, s, changes{sum(one): one, sum(two): two})
	add(t, s, last)
	refused(t, s, on(api.MaxTime, sum(last)), api.ErrTime)
	is(t, s, changes{sum(one): one, sum(two): two, sum(last): last})
}

// world is a state with three changes, in whose indexes documents and elements stand side by side.
func world(t *testing.T) (s *state.State, l changes, one, two, three api.Id) {
	s = state.New()
	first := ann(1,
		create("a"),                   // 0
		insert(own(0), own(0), "abc"), // 1 to 3
		create("b"),                   // 4
		insert(own(4), own(4), "xy"),  // 5, 6
		insert(own(0), own(3), "de"),  // 7, 8
		insert(own(0), own(0), "é"),   // 9
		insert(own(4), own(6), "z"),   // 10
	)
	one = add(t, s, first)
	second := by("Bob", 2,
		insert(of(one, 0), of(one, 1), "12"), // 0, 1
		create("c"),                          // 2
		drop(of(one, 0), of(one, 2), 2),
		insert(of(one, 4), of(one, 4), "3"), // 3
		rename(of(one, 0), "d"),
		insert(of(one, 0), of(one, 0), "4"), // 4
	)
	two = add(t, s, second)
	third := by("Eve", 3, remove(of(two, 2)), insert(of(two, 2), of(two, 2), "q"))
	three = add(t, s, third)
	l = changes{one: first, two: second, three: third}
	is(t, s, l)
	comes(t, s, "b", "3xyz", "d", "4éa12de")
	return s, l, one, two, three
}

// P15.1: refs that name what they should: documents that are not shown, dead elements, those of other changes, too.
func TestAddUse(t *testing.T) {
	s, l, one, two, three := world(t)
	for _, ops := range [][]api.Op{
		{rename(of(one, 4), "e")},
		{remove(of(two, 2))},
		{rename(of(two, 2), "e"), insert(of(two, 2), of(three, 0), "r")},
		{insert(of(one, 0), of(one, 0), "-"), insert(of(one, 4), of(one, 4), "+")},
		{insert(of(one, 0), of(one, 3), "-")}, // behind a dead one
		{insert(of(one, 0), of(two, 1), "-")},
		{insert(of(one, 0), of(two, 4), "-"), insert(of(one, 0), own(0), "+"), drop(of(one, 0), own(0), 2)},
		{drop(of(one, 0), of(one, 1), 3)}, // dead ones, too
		{drop(of(one, 0), of(one, 7), 3)}, // of two operations
		{drop(of(one, 0), of(one, 7), 2), drop(of(one, 0), of(one, 8), 2), drop(of(one, 0), of(one, 9), 1)},
		{drop(of(one, 4), of(one, 5), 2), drop(of(one, 4), of(one, 10), 1), drop(of(one, 4), of(two, 3), 1)},
		{drop(of(one, 0), of(two, 0), 2), drop(of(one, 0), of(two, 4), 1)},
		{create("n"), insert(own(0), own(0), "n"), drop(own(0), own(1), 1), remove(own(0))},
	} {
		c := by("Una", 4, ops...)
		other := s.Copy()
		id := add(t, other, c)
		all := changes{id: c}
		for id, c := range l {
			all[id] = c
		}
		is(t, other, all)
	}
	is(t, s, l)
}

// P15.1: refs that name something else; be there operations ahead that fit, nothing has become of them.
func TestAddUseErrors(t *testing.T) {
	s, l, one, two, three := world(t)
	for _, op := range []api.Op{
		remove(of(one, 1)),       // an element
		remove(of(one, 11)),      // beyond what was made
		remove(of(one, 1<<31-1)), //
		remove(of(three, 0)),
		remove(of(two, 0)),
		rename(of(one, 5), "e"),
		rename(of(two, 4), "e"),
		insert(of(one, 2), of(one, 2), "-"), // Doc and At are one, but no document
		insert(of(one, 11), of(one, 11), "-"),
		insert(of(two, 0), of(two, 0), "-"),
		insert(of(one, 1), of(one, 2), "-"),
		insert(of(one, 0), of(one, 4), "-"), // another document
		insert(of(one, 4), of(one, 0), "-"),
		insert(of(one, 0), of(two, 2), "-"),
		insert(of(one, 0), of(one, 5), "-"), // another document's elements
		insert(of(one, 0), of(one, 6), "-"),
		insert(of(one, 0), of(one, 10), "-"),
		insert(of(one, 4), of(one, 3), "-"),
		insert(of(one, 4), of(one, 9), "-"),
		insert(of(one, 0), of(two, 3), "-"),
		insert(of(one, 4), of(two, 4), "-"),
		insert(of(two, 2), of(one, 1), "-"),
		insert(of(one, 0), of(three, 0), "-"),
		insert(of(one, 0), of(one, 11), "-"), // beyond what was made
		insert(of(one, 0), of(two, 5), "-"),
		insert(of(two, 2), of(three, 1), "-"),
		insert(of(one, 0), of(one, 1<<31-1), "-"),
		insert(own(0), of(one, 1), "-"), // its own document has none of another change
		insert(own(0), of(two, 0), "-"),
		insert(own(0), of(one, 0), "-"),
		drop(own(0), of(one, 1), 1),
		drop(own(0), of(one, 0), 1),
		drop(of(one, 0), of(one, 0), 1), // a document
		drop(of(one, 0), of(one, 0), 2),
		drop(of(one, 0), of(one, 3), 2),
		drop(of(one, 0), of(one, 3), 4),
		drop(of(one, 0), of(one, 4), 1),
		drop(of(one, 0), of(one, 5), 1), // another document's elements
		drop(of(one, 4), of(one, 5), 3),
		drop(of(one, 4), of(one, 6), 4),
		drop(of(one, 0), of(one, 9), 2),
		drop(of(one, 4), of(one, 9), 2),
		drop(of(one, 4), of(one, 1), 1),
		drop(of(one, 0), of(two, 0), 3),
		drop(of(one, 0), of(two, 1), 4),
		drop(of(two, 2), of(one, 1), 1),
		drop(of(one, 2), of(one, 1), 1), // in no document
		drop(of(one, 11), of(one, 1), 1),
		drop(of(one, 4), of(one, 10), 2), // beyond what was made
		drop(of(one, 4), of(one, 11), 1),
		drop(of(one, 0), of(two, 4), 2),
		drop(of(one, 0), of(two, 4), 4096),
		drop(of(one, 0), of(one, 1<<31-1), 4096),
	} {
		refused(t, s, ann(4, create("n"), insert(of(one, 0), of(one, 1), "n"), drop(of(one, 0), of(one, 1), 1), rename(of(one, 4), "n"), op), api.ErrUse)
		if op.Doc != own(0) {
			refused(t, s, ann(4, op), api.ErrUse)
			refused(t, s, ann(4, op, create("n")), api.ErrUse)
		}
		is(t, s, l)
		is(t, s.Copy(), l)
	}
}

// P15.1: the keys of what a change makes: of elements and documents their indexes, of claims the places of the operations.
func TestKeys(t *testing.T) {
	s := state.New()
	c := ann(1, create("z"), insert(own(0), own(0), "αβ"), create("y"), create("x"), rename(own(0), "w"), insert(own(3), own(3), "γ"), rename(own(0), "v"), rename(own(4), "w"))
	id := add(t, s, c)
	is(t, s, changes{id: c})
	comes(t, s, "v", "αβ", "w", "", "y", "γ")
	for path, index := range map[string]int{"v": 0, "y": 3, "w": 4} {
		if doc, e := s.Doc(path); doc != of(id, index) || e != api.OK {
			t.Errorf("%q: %v, %d", path, doc, e)
		}
	}
	if at, e := s.At("y", 0); at != of(id, 5) || e != api.OK {
		t.Errorf("%v, %d", at, e)
	}
	// Of one time the later id counts, be its operation further ahead.
	a, b := ann(2, rename(of(id, 3), "a")), ann(2, create("c"), rename(of(id, 3), "b"))
	add(t, s, a)
	add(t, s, b)
	want := "a"
	if x, y := sum(a), sum(b); strings.Compare(string(x[:]), string(y[:])) < 0 {
		want = "b"
	}
	if doc, e := s.Doc(want); doc != of(id, 3) || e != api.OK {
		t.Errorf("%q: %v, %d", want, doc, e)
	}
	is(t, s, changes{id: c, sum(a): a, sum(b): b})
}

// P15.3: paths that clash are made fresh, in the order of the documents' keys; a document that is removed has none, till it is renamed.
func TestFiles(t *testing.T) {
	s := state.New()
	l := changes{}
	put := func(c api.Change, files ...string) api.Id {
		t.Helper()
		id := add(t, s, c)
		l[id] = c
		comes(t, s, files...)
		is(t, s, l)
		return id
	}
	one := put(ann(1, create("b"), insert(own(0), own(0), "1")), "b", "1")
	two := put(ann(2, create("b"), insert(own(0), own(0), "2")), "b", "1", "b~1", "2")
	put(ann(3, create("b/c"), create("B"), create("a"), create("é")), "B", "", "a", "", "b", "1", "b~1", "2", "b~2/c", "", "é", "")
	if wants, e := s.Wants("b~1"); wants != "b" || e != api.OK {
		t.Errorf("%q, %d", wants, e)
	}
	if wants, e := s.Wants("b~2/c"); wants != "b/c" || e != api.OK {
		t.Errorf("%q, %d", wants, e)
	}
	fails(t, s, "b/c", api.ErrNone) // none has what it wants
	put(ann(4, remove(of(one, 0))), "B", "", "a", "", "b", "2", "b~1/c", "", "é", "")
	if doc, e := s.Doc("b"); doc != of(two, 0) || e != api.OK {
		t.Errorf("%v, %d", doc, e)
	}
	put(ann(5, insert(of(one, 0), of(one, 1), "!")), "B", "", "a", "", "b", "2", "b~1/c", "", "é", "") // nobody sees it
	put(ann(3, rename(of(one, 0), "e")), "B", "", "a", "", "b", "2", "b~1/c", "", "é", "")             // ahead of the removal
	put(ann(6, rename(of(one, 0), "d")), "B", "", "a", "", "b", "2", "b~1/c", "", "d", "1!", "é", "")  // it is shown again, with all that came
	put(ann(7, rename(of(two, 0), "d/e")), "B", "", "a", "", "b/c", "", "d", "1!", "d~1/e", "2", "é", "")
	put(ann(8, rename(of(one, 0), "d~1")), "B", "", "a", "", "b/c", "", "d/e", "2", "d~1", "1!", "é", "")
	fails(t, s, "d", api.ErrNone)
}

// P15.3: rows of one change go on over dead elements, and over those of the same change that stand apart; those of one author do not.
func TestBlame(t *testing.T) {
	s := state.New()
	one := add(t, s, ann(1, create("a"), insert(own(0), own(0), "abcdef")))
	two := add(t, s, ann(2, insert(of(one, 0), of(one, 3), "x"), insert(of(one, 0), of(one, 6), "y"), insert(of(one, 0), of(one, 6), "z")))
	blames := func(want ...api.Run) {
		t.Helper()
		if l, e := s.Blame("a"); !slices.Equal(l, want) || e != api.OK {
			t.Errorf("%v, %d; want %v", l, e, want)
		}
	}
	blames(run(one, "Ann", "abc"), run(two, "Ann", "x"), run(one, "Ann", "def"), run(two, "Ann", "zy"))
	add(t, s, by("Bob", 3, drop(of(one, 0), of(two, 0), 1)))
	blames(run(one, "Ann", "abcdef"), run(two, "Ann", "zy"))
	add(t, s, by("Bob", 4, drop(of(one, 0), of(one, 2), 4)))
	blames(run(one, "Ann", "af"), run(two, "Ann", "zy"))
	four := add(t, s, by("Bob", 5, insert(of(one, 0), of(one, 4), "é\n"), insert(of(one, 0), of(one, 0), "-")))
	blames(run(four, "Bob", "-"), run(one, "Ann", "a"), run(four, "Bob", "é\n"), run(one, "Ann", "f"), run(two, "Ann", "zy"))
	add(t, s, by("Bob", 6, drop(of(one, 0), of(one, 1), 6), drop(of(one, 0), of(two, 1), 2), drop(of(one, 0), of(four, 0), 3)))
	blames()
	comes(t, s, "a", "")
}

// P15.2, R4: what is done to a copy is not done to what it was made of, and the other way round.
func TestCopy(t *testing.T) {
	s, l, one, two, _ := world(t)
	a, b := s.Copy(), s.Copy()
	all := changes{}
	for id, c := range l {
		all[id] = c
	}
	more := by("Una", 9, insert(of(one, 0), of(one, 9), "!"), drop(of(one, 0), of(two, 0), 1), rename(of(one, 4), "m"), create("n"))
	all[add(t, a, more)] = more
	is(t, a, all)
	is(t, b, l)
	is(t, s, l)
	add(t, s, more)
	is(t, s, all)
	is(t, b, l)
	is(t, state.New().Copy(), nil)
	add(t, state.New().Copy(), ann(1, create("a")))
}

// P15.3: of a nil state.
func TestNil(t *testing.T) {
	var s *state.State
	c := ann(1, create("a"))
	refused(t, s, c, api.ErrArg)
	got, e := s.Change(sum(c))
	if s.Has(sum(c)) || len(s.Ids()) > 0 || s.Time() != 0 || len(s.Files()) > 0 || s.Copy() != nil || !same(got, api.Change{}) || e != api.ErrArg {
		t.Errorf("%v, %x, %d, %v, %v, %v, %d", s.Has(sum(c)), s.Ids(), s.Time(), s.Files(), s.Copy(), got, e)
	}
	fails(t, s, "a", api.ErrArg)
	fails(t, s, "", api.ErrArg)
}

// R4: what is handed in is not changed and not kept; what is handed out is new.
func TestMemory(t *testing.T) {
	s, l, one, two, three := world(t)
	c := by("Una", 4, insert(of(one, 0), of(two, 0), "-"), remove(of(two, 2)), insert(of(two, 2), of(three, 0), "+"))
	deps, ops := append(slices.Clone(c.Deps), api.Id{1}), append(slices.Clone(c.Ops), create("x"))
	given := c
	given.Deps, given.Ops = deps[:len(c.Deps)], ops[:len(c.Ops)]
	l[add(t, s, given)] = c
	if !same(given, c) || deps[len(c.Deps)] != (api.Id{1}) || ops[len(c.Ops)] != create("x") {
		t.Error("changed")
	}
	clear(deps)
	clear(ops)
	is(t, s, l)
	other := s.Copy()
	for range 2 {
		got, _ := s.Change(sum(c))
		clear(append(got.Deps, api.Id{2}))
		clear(append(got.Ops, api.Op{}))
		clear(got.Deps)
		clear(got.Ops)
		clear(s.Ids())
		clear(s.Files())
		runs, _ := s.Blame("d")
		clear(append(runs, api.Run{}))
		clear(runs)
		is(t, s, l)
		is(t, other, l)
	}
}

// R1: many changes; operations; elements; documents.
func TestMany(t *testing.T) {
	begun := time.Now()
	s := state.New()
	last := add(t, s, ann(1, create("a"), insert(own(0), own(0), strings.Repeat("é", 2048))))
	doc := of(last, 0)
	at := of(last, 2048)
	for i := range 4096 { // each behind the one ahead
		last = add(t, s, ann(2+i, insert(doc, at, "xy"), drop(doc, at, 1)))
		at = of(last, 1)
	}
	if text, _ := s.Text("a"); text != strings.Repeat("é", 2047)+strings.Repeat("x", 4096)+"y" || s.Time() != 4097 || len(s.Ids()) != 4097 {
		t.Errorf("%.40q", text)
	}
	if runs, _ := s.Blame("a"); len(runs) != 4097 || runs[4096].Text != "xy" {
		t.Errorf("%d", len(runs))
	}
	if other := s.Copy(); !slices.Equal(other.Files(), s.Files()) {
		t.Error("copy")
	}

	s = state.New()
	ops := []api.Op{create("a"), insert(own(0), own(0), strings.Repeat("a", 4096))}
	for i := range 4094 {
		ops = append(ops, insert(own(0), own(1+i), "b"))
	}
	one := add(t, s, ann(1, ops...))
	if text, _ := s.Text("a"); text != strings.Repeat("ab", 4094)+"aa" {
		t.Errorf("%.40q", text)
	}
	ops = slices.Repeat([]api.Op{drop(of(one, 0), of(one, 1), 4096)}, 4096)
	add(t, s, ann(2, ops...))
	comes(t, s, "a", strings.Repeat("b", 4094))
	ops = nil
	for i := range 4094 {
		ops = append(ops, drop(of(one, 0), of(one, 4097+i), 1))
	}
	add(t, s, ann(3, ops...))
	comes(t, s, "a", "")

	s = state.New()
	ops = nil
	for i := range 2048 {
		ops = append(ops, create(fmt.Sprintf("d/%d", i)), insert(own(2*i), own(2*i), "x"))
	}
	add(t, s, ann(1, ops...))
	if l := s.Files(); len(l) != 2048 || l[2047] != (api.File{Path: "d/999", Bytes: "x"}) {
		t.Errorf("%d", len(l))
	}
	for i := range 2048 {
		if text, e := s.Text(fmt.Sprintf("d/%d", i)); text != "x" || e != api.OK {
			t.Errorf("%d: %q, %d", i, text, e)
		}
	}
	if d := time.Since(begun); d > time.Minute {
		t.Errorf("%v", d)
	}
}
