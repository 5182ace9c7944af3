package weave_test

import (
	"fmt"
	"math"
	"slices"
	"strings"
	"testing"

	"variorum/api"
	"variorum/object"
	"variorum/state"
	"variorum/weave"
)

// own is a ref to what the change itself has made.
func own(index int) api.Ref { return api.Ref{Index: index} }

func of(id api.Id, index int) api.Ref { return api.Ref{Change: id, Index: index} }

func create(path string) api.Op { return api.Op{Kind: api.OCreate, Path: path} }

func insert(doc, at api.Ref, text string) api.Op {
	return api.Op{Kind: api.OInsert, Doc: doc, At: at, Text: text}
}

func drop(doc, at api.Ref, count int) api.Op {
	return api.Op{Kind: api.ODelete, Doc: doc, At: at, Count: count}
}

func rename(doc api.Ref, path string) api.Op {
	return api.Op{Kind: api.ORename, Doc: doc, Path: path}
}

func remove(doc api.Ref) api.Op { return api.Op{Kind: api.ORemove, Doc: doc} }

// files is paths and texts in turn.
func files(l ...string) []api.File {
	var files []api.File
	for ; len(l) > 0; l = l[2:] {
		files = append(files, api.File{Path: l[0], Bytes: l[1]})
	}
	return files
}

func moves(l ...[2]string) [][2]string { return l }

// set is ids in order, each once, the zero one not.
func set(l ...api.Id) []api.Id {
	l = slices.Clone(l)
	slices.SortFunc(l, func(a, b api.Id) int { return strings.Compare(string(a[:]), string(b[:])) })
	return slices.DeleteFunc(slices.Compact(l), func(id api.Id) bool { return id == api.Id{} })
}

// by is a change of an author that hangs on all to which its operations have refs.
func by(author string, time int, ops ...api.Op) api.Change {
	var ids []api.Id
	for _, op := range ops {
		ids = append(ids, op.Doc.Change, op.At.Change)
	}
	return api.Change{Time: time, Deps: set(ids...), Author: author, Ops: ops}
}

func sum(c api.Change) api.Id {
	id, _ := object.Id(api.Object{Kind: api.KChange, Change: c})
	return id
}

// same: are two changes one, empty lists being the same as none?
func same(a, b api.Change) bool {
	return a.Time == b.Time && a.Author == b.Author && slices.Equal(a.Deps, b.Deps) && slices.Equal(a.Ops, b.Ops)
}

// add adds a change, and fails, unless that may be. It tells its id.
func add(t *testing.T, s *state.State, c api.Change) api.Id {
	t.Helper()
	if e := s.Add(sum(c), c); e != api.OK {
		t.Fatalf("%.300s: error %d", fmt.Sprint(c), e)
	}
	return sum(c)
}

// imports fails, unless Ann's import is the change of these operations, and brings the state to just the files. It tells the change's id.
func imports(t *testing.T, s *state.State, to []api.File, moves [][2]string, ops ...api.Op) api.Id {
	t.Helper()
	before := s.Files()
	c, e := weave.Import(s, to, moves, "Ann")
	if want := by("Ann", s.Time()+1, ops...); e != api.OK || !same(c, want) {
		t.Fatalf("%.300s, error %d; want %.300s", fmt.Sprint(c.Ops), e, fmt.Sprint(want.Ops))
	}
	expected, e := weave.Expect(s, to, moves)
	if n := weave.Elements(c); e != api.OK || n != expected {
		t.Errorf("%d elements; expected %d, error %d", n, expected, e)
	}
	if got := s.Files(); !slices.Equal(got, before) {
		t.Error("import has changed the state")
	}
	id := add(t, s, c)
	comes(t, s, to)
	return id
}

// comes fails, unless a state has just these files.
func comes(t *testing.T, s *state.State, want []api.File) {
	t.Helper()
	want = slices.Clone(want)
	slices.SortFunc(want, func(a, b api.File) int { return strings.Compare(a.Path, b.Path) })
	if got := s.Files(); !slices.Equal(got, want) {
		t.Errorf("%.300s; want %.300s", fmt.Sprintf("%q", got), fmt.Sprintf("%q", want))
	}
}

// refused fails, unless an import is refused with that error.
func refused(t *testing.T, what string, s *state.State, files []api.File, moves [][2]string, author string, want api.Errno) {
	t.Helper()
	if c, e := weave.Import(s, files, moves, author); e != want || !same(c, api.Change{}) {
		t.Errorf("%s: %.300s, error %d; want %d", what, fmt.Sprint(c), e, want)
	}
}

// expects fails, unless so many elements are expected, or that is refused with that error.
func expects(t *testing.T, what string, s *state.State, files []api.File, moves [][2]string, n int, want api.Errno) {
	t.Helper()
	if got, e := weave.Expect(s, files, moves); e != want || got != n {
		t.Errorf("%s: expected %d, error %d; want %d, %d", what, got, e, n, want)
	}
}

// The examples of the chapter.
func TestExamples(t *testing.T) {
	s := state.New()
	one := imports(t, s, files("a", "hi"), nil, create("a"), insert(own(0), own(0), "hi"))
	two := imports(t, s, files("a", "ho"), nil, drop(of(one, 0), of(one, 2), 1), insert(of(one, 0), of(one, 1), "o"))
	other := s.Copy()
	imports(t, s, files("b", "ho"), moves([2]string{"a", "b"}), rename(of(one, 0), "b"))
	imports(t, other, files("b", "ho"), nil, remove(of(one, 0)), create("b"), insert(own(0), own(0), "ho"))
	if at, e := s.At("b", 1); e != api.OK || at != of(two, 0) {
		t.Errorf("%v, %d", at, e)
	}
}

// P17.1: new files, with text and without; the indexes of what is created.
func TestImportNew(t *testing.T) {
	imports(t, state.New(), files("b", "αβ", "é", "", "a/c", "x", "a.c", "", "a/b", "yz"), nil,
		create("a.c"),
		create("a/b"), insert(own(1), own(1), "yz"), // 2, 3
		create("a/c"), insert(own(4), own(4), "x"), // 5
		create("b"), insert(own(6), own(6), "αβ"), // 7, 8
		create("é"),
	)
}

// P17.1: all removals ahead of the files, in order of the paths that the documents have; what is inserted into documents that are there makes indexes, too.
func TestImportOrder(t *testing.T) {
	s := state.New()
	one := add(t, s, by("Bob", 5,
		create("z"),                   // 0
		create("b"),                   // 1
		create("a"),                   // 2
		insert(own(2), own(2), "old"), // 3 to 5
		create("a"),                   // 6: a~1
		create("m"), create("n"),      // 7, 8
		rename(own(8), "0"), remove(own(7)), // it is no document of the state any more
	))
	imports(t, s, files("c", "new", "b", "xy", "a", "older"), nil,
		remove(of(one, 8)), remove(of(one, 6)), remove(of(one, 0)),
		insert(of(one, 2), of(one, 5), "er"), // 0, 1
		insert(of(one, 1), of(one, 1), "xy"), // 2, 3
		create("c"), insert(own(4), own(4), "new"),
	)
	imports(t, s, nil, nil, remove(of(one, 2)), remove(of(one, 1)), remove(of(s.Ids()[1-slices.Index(s.Ids(), one)], 4)))
	imports(t, s, files("a", "older"), nil, create("a"), insert(own(0), own(0), "older"))
}

// P17.1: the document of a file: by a move, by its path, none.
func TestImportMoves(t *testing.T) {
	s := state.New()
	one := imports(t, s, files("a", "A", "b", "B", "c", "C"), nil,
		create("a"), insert(own(0), own(0), "A"), create("b"), insert(own(2), own(2), "B"), create("c"), insert(own(4), own(4), "C"))
	a, b, c := of(one, 0), of(one, 2), of(one, 4)
	for _, x := range []struct {
		what  string
		files []api.File
		moves [][2]string
		ops   []api.Op
	}{
		{"two change their places", files("a", "B", "b", "A", "c", "C"), moves([2]string{"a", "b"}, [2]string{"b", "a"}),
			[]api.Op{rename(b, "a"), rename(a, "b")}},
		{"round a circle, edited", files("a", "Cc", "b", "A", "c", ""), moves([2]string{"b", "c"}, [2]string{"a", "b"}, [2]string{"c", "a"}),
			[]api.Op{rename(c, "a"), insert(c, of(one, 5), "c"), rename(a, "b"), rename(b, "c"), drop(b, of(one, 3), 1)}},
		{"one after the other", files("b", "A", "d", "B", "c", "C"), moves([2]string{"a", "b"}, [2]string{"b", "d"}),
			[]api.Op{rename(a, "b"), rename(b, "d")}},
		{"over one that is there", files("b", "A", "c", "C"), moves([2]string{"a", "b"}),
			[]api.Op{remove(b), rename(a, "b")}},
		{"a new one where one left", files("a", "N", "b", "B", "c", "C", "d", "A"), moves([2]string{"a", "d"}),
			[]api.Op{create("a"), insert(own(0), own(0), "N"), rename(a, "d")}},
		{"nowhere else", files("a", "A", "b", "Bb", "c", "C"), moves([2]string{"b", "b"}, [2]string{"a", "a"}),
			[]api.Op{insert(b, of(one, 3), "b")}},
		{"into a folder of its own name", files("a/a", "A", "b", "B", "c", "C"), moves([2]string{"a", "a/a"}),
			[]api.Op{rename(a, "a/a")}},
	} {
		t.Run(x.what, func(t *testing.T) { imports(t, s.Copy(), x.files, x.moves, x.ops...) })
	}
}

// P17.1: a document that has another path than it wants is renamed, be it to the path that it has.
func TestImportWants(t *testing.T) {
	s := state.New()
	one := add(t, s, by("Bob", 1, create("a"), create("a"), insert(own(1), own(1), "x"), create("a/b")))
	comes(t, s, files("a", "", "a~1", "x", "a~2/b", ""))
	other := s.Copy()
	imports(t, s, files("a", "", "a~1", "x", "a~2/b", ""), nil, rename(of(one, 1), "a~1"), rename(of(one, 3), "a~2/b"))
	refused(t, "what each wants", s, s.Files(), nil, "Ann", api.ErrClean)
	imports(t, other, files("a", "x"), moves([2]string{"a~1", "a"}), remove(of(one, 0)), remove(of(one, 3))) // it wants that
}

// P17.1: edits: where they are put, and that what is dropped goes ahead of what is added.
func TestImportEdits(t *testing.T) {
	for _, x := range []struct {
		from, to string
		ops      func(one api.Id) []api.Op
	}{
		{"", "é€", func(one api.Id) []api.Op { return []api.Op{insert(of(one, 0), of(one, 0), "é€")} }},
		{"abc", "", func(one api.Id) []api.Op { return []api.Op{drop(of(one, 0), of(one, 1), 3)} }},
		{"abc", "xabc", func(one api.Id) []api.Op { return []api.Op{insert(of(one, 0), of(one, 0), "x")} }},
		{"abc", "xbc", func(one api.Id) []api.Op {
			return []api.Op{drop(of(one, 0), of(one, 1), 1), insert(of(one, 0), of(one, 0), "x")}
		}},
		{"abc", "abcx", func(one api.Id) []api.Op { return []api.Op{insert(of(one, 0), of(one, 3), "x")} }},
		{"abcdefg", "bXYdZg", func(one api.Id) []api.Op {
			return []api.Op{
				drop(of(one, 0), of(one, 1), 1),
				drop(of(one, 0), of(one, 3), 1), insert(of(one, 0), of(one, 2), "XY"),
				drop(of(one, 0), of(one, 5), 2), insert(of(one, 0), of(one, 4), "Z"),
			}
		}},
		{"aab", "ab", func(one api.Id) []api.Op { return []api.Op{drop(of(one, 0), of(one, 2), 1)} }},
	} {
		s := state.New()
		imports(t, s, files("f", x.from), nil, slices.DeleteFunc([]api.Op{create("f"), insert(own(0), own(0), x.from)}, func(op api.Op) bool { return op.Kind == api.OInsert && op.Text == "" })...)
		imports(t, s, files("f", x.to), nil, x.ops(s.Ids()[0])...)
	}
}

// P17.1: rows of what is dropped are as long as can be: over dead ones and others' dead ones, over two operations of one change; but not over another change's, nor where an index is left out, or less.
func TestImportRows(t *testing.T) {
	s := state.New()
	one := add(t, s, by("Ann", 1, create("f"), insert(own(0), own(0), "abcdef"), insert(own(0), own(6), "gh"), insert(own(0), own(1), "i"))) // 1 to 6; 7, 8; 9
	f := of(one, 0)
	two := add(t, s, by("Bob", 2, insert(f, of(one, 2), "XY"), insert(f, of(one, 4), "Z"), insert(f, of(one, 6), "!"), insert(f, own(3), "?"), drop(f, own(2), 1), drop(f, of(one, 8), 1)))
	comes(t, s, files("f", "aibXYcdef!?g")) // with Z dead behind d, h at the end
	for _, x := range []struct {
		to  string
		ops []api.Op
	}{
		{"", []api.Op{drop(f, of(one, 1), 1), drop(f, of(one, 9), 1), drop(f, of(one, 2), 1), drop(f, of(two, 0), 2), drop(f, of(one, 3), 4), drop(f, of(two, 3), 2), drop(f, of(one, 7), 1)}},
		{"aibXY!?g", []api.Op{drop(f, of(one, 3), 4)}},
		{"aibXYcf!?g", []api.Op{drop(f, of(one, 4), 2)}},
		{"ai-g", []api.Op{drop(f, of(one, 2), 1), drop(f, of(two, 0), 2), drop(f, of(one, 3), 4), drop(f, of(two, 3), 2), insert(f, of(one, 9), "-")}},
		{"aibXYcd+f!?g", []api.Op{drop(f, of(one, 5), 1), insert(f, of(one, 4), "+")}},
		{"aibXYcdef!?gh", []api.Op{insert(f, of(one, 7), "h")}},
	} {
		imports(t, s.Copy(), files("f", x.to), nil, x.ops...)
	}
	imports(t, s, files("f", "aibXYcdefg"), nil, drop(f, of(two, 3), 2))
	imports(t, s, files("f", "aib"), nil, drop(f, of(two, 0), 2), drop(f, of(one, 3), 5)) // def and g, now that nothing live stands between
	imports(t, s, files("f", ""), nil, drop(f, of(one, 1), 1), drop(f, of(one, 9), 1), drop(f, of(one, 2), 1))
}

// P17.1: the Deps are all to which there are refs, as documents or elements, each once.
func TestImportDeps(t *testing.T) {
	s := state.New()
	one := imports(t, s, files("a", "abc", "b", "", "c", ""), nil, create("a"), insert(own(0), own(0), "abc"), create("b"), create("c"))
	two := imports(t, s, files("a", "abcd", "b", "", "c", ""), nil, insert(of(one, 0), of(one, 3), "d"))
	three := imports(t, s, files("a", "abcde", "b", "", "c", "", "d", ""), nil, insert(of(one, 0), of(two, 0), "e"), create("d"))
	for _, x := range []struct {
		files []api.File
		deps  []api.Id
	}{
		{files("a", "abcde", "b", "", "c", "", "d", "", "e", "x"), nil},
		{files("a", "abcde", "b", "", "c", "x", "d", ""), set(one)},
		{files("a", "abcde", "b", "", "c", "", "d", "x"), set(three)},
		{files("a", "abcd", "b", "", "c", "", "d", ""), set(one, three)},
		{files("a", "abcdX", "c", "", "d", "x"), set(one, two, three)},
		{files("a", "abcdXe", "b", "", "c", "", "d", ""), set(one, two)},
		{nil, set(one, three)},
	} {
		if c, e := weave.Import(s, x.files, nil, "Ann"); e != api.OK || !slices.Equal(c.Deps, x.deps) {
			t.Errorf("%v: %x, error %d; want %x", x.files, c.Deps, e, x.deps)
		}
	}
}

// long is a state with a document "long" of more than 4096 runes, and "a".
func long(t *testing.T) *state.State {
	s := state.New()
	add(t, s, by("Bob", 1, create("long"), insert(own(0), own(0), strings.Repeat("x", 4096)), insert(own(0), own(0), "y"), create("a")))
	return s
}

// last is a copy of a state with one change more, of the last time.
func last(t *testing.T, s *state.State) *state.State {
	s = s.Copy()
	add(t, s, by("Bob", api.MaxTime, create("last")))
	return s
}

// P17.1, P17.2: the errors, each with all later ones beside it that may be.
func TestErrors(t *testing.T) {
	s := long(t)
	late := last(t, s)
	wrong := files("a//b", "")
	bad := moves([2]string{"a", "b"}, [2]string{"a", "b"}) // there is no file b
	plain := files("long", "", "a", "", "last", "")
	for _, x := range []struct {
		what   string
		s      *state.State
		files  []api.File
		moves  [][2]string
		author string
		e, f   api.Errno // Import's, Expect's
	}{
		{"nil", nil, wrong, bad, "", api.ErrArg, api.ErrArg},
		{"nil, all else may be", nil, files("a", ""), nil, "Ann", api.ErrArg, api.ErrArg},
		{"no author", late, wrong, bad, "", api.ErrName, api.ErrName},
		{"an author that is none", s, nil, nil, "a\n", api.ErrName, api.OK},
		{"an author that is too long", late, plain, bad, strings.Repeat("a", 33), api.ErrName, api.ErrNone},
		{"too many files", late, slices.Repeat(wrong, 65), bad, "Ann", api.ErrFull, api.ErrFull},
		{"a path that is none", late, files("a", "", "a//b", "", "a", ""), bad, "Ann", api.ErrName, api.ErrName},
		{"a file that is too long", late, files("a", strings.Repeat("a", 4097), "", ""), bad, "Ann", api.ErrLong, api.ErrLong},
		{"a file that is no text", late, files("a", "\xff", "", ""), bad, "Ann", api.ErrText, api.ErrText},
		{"paths that clash", late, files("a", "", "a/b", "", "", ""), bad, "Ann", api.ErrThere, api.ErrThere},
		{"no file of a move", late, plain, bad, "Ann", api.ErrNone, api.ErrNone},
		{"no document of a move", late, plain, moves([2]string{"b", "a"}, [2]string{"b", "a"}), "Ann", api.ErrNone, api.ErrNone},
		{"no document with the path that one wants", late, plain, moves([2]string{"", "a"}), "Ann", api.ErrNone, api.ErrNone},
		{"the same from", late, plain, moves([2]string{"a", "a"}, [2]string{"a", "nope"}), "Ann", api.ErrThere, api.ErrThere},
		{"the same to", late, plain, moves([2]string{"a", "a"}, [2]string{"nope", "a"}), "Ann", api.ErrThere, api.ErrThere},
		{"the same from, but not next to it", late, plain, moves([2]string{"a", "a"}, [2]string{"last", "last"}, [2]string{"a", "long"}), "Ann", api.ErrThere, api.ErrThere},
		{"none, then the same", late, plain, moves([2]string{"a", "a"}, [2]string{"nope", "long"}, [2]string{"a", "a"}), "Ann", api.ErrNone, api.ErrNone},
		{"the same, then none", late, plain, moves([2]string{"a", "a"}, [2]string{"long", "a"}, [2]string{"nope", "long"}), "Ann", api.ErrThere, api.ErrThere},
		{"the last time", late, plain, nil, "Ann", api.ErrTime, api.ErrLong},
		{"the last time, and nothing to do", last(t, state.New()), files("last", ""), nil, "Ann", api.ErrTime, api.OK},
		{"a document that is too long", s, plain, nil, "Ann", api.ErrLong, api.ErrLong},
		{"one that is moved", s, plain, moves([2]string{"long", "a"}), "Ann", api.ErrLong, api.ErrLong},
		{"nothing to do", state.New(), nil, nil, "Ann", api.ErrClean, api.OK},
	} {
		refused(t, x.what, x.s, x.files, x.moves, x.author, x.e)
		expects(t, x.what, x.s, x.files, x.moves, 0, x.f)
	}
	comes(t, s, s.Files())
}

// P17.1: a document that is too long may go, and one of so many runes as may be, of more bytes, may stay.
func TestImportLong(t *testing.T) {
	s := long(t)
	id := s.Ids()[0]
	imports(t, s, files("a", ""), nil, remove(of(id, 0)))
	s = state.New()
	one := add(t, s, by("Bob", 1, create("a"), insert(own(0), own(0), strings.Repeat("é", 2048)), insert(own(0), own(0), strings.Repeat("é", 2048))))
	imports(t, s, files("a", strings.Repeat("é", 2048)), nil, drop(of(one, 0), of(one, 1), 2048))
	other := state.New()
	two := imports(t, other, files("a", strings.Repeat("x", 4096)), nil, create("a"), insert(own(0), own(0), strings.Repeat("x", 4096)))
	imports(t, other, files("a", strings.Repeat("y", 4096)), nil, drop(of(two, 0), of(two, 1), 4096), insert(of(two, 0), of(two, 0), strings.Repeat("y", 4096)))
}

// P17.1: the time ahead of the last one.
func TestImportTime(t *testing.T) {
	s := state.New()
	add(t, s, by("Bob", api.MaxTime-1, create("a")))
	imports(t, s, files("a", "", "b", ""), nil, create("b"))
	if s.Time() != api.MaxTime {
		t.Error(s.Time())
	}
	refused(t, "behind it", s, nil, nil, "Ann", api.ErrTime)
	expects(t, "behind it", s, files("a", "xy"), nil, 2, api.OK)
}

// P17.1: nothing to do, with moves that go nowhere, too; a text that is empty is a file.
func TestImportClean(t *testing.T) {
	s := state.New()
	imports(t, s, files("a", "", "b", "x"), nil, create("a"), create("b"), insert(own(1), own(1), "x"))
	for _, l := range [][][2]string{nil, moves([2]string{"a", "a"}), moves([2]string{"b", "b"}, [2]string{"a", "a"})} {
		refused(t, "clean", s, files("b", "x", "a", ""), l, "Ann", api.ErrClean)
		expects(t, "clean", s, files("b", "x", "a", ""), l, 0, api.OK)
	}
}

// P17.1: as many operations as may be, and one more, which counts ahead of too many bytes.
func TestImportOps(t *testing.T) {
	s := state.New()
	var ops []api.Op
	for n := range 4096 {
		ops = append(ops, create(fmt.Sprint(10000+n)))
	}
	one := add(t, s, by("Bob", 1, ops...))
	more := s.Copy()
	two := add(t, more, by("Bob", 2, create("z")))
	var removes []api.Op
	for n := range 4096 {
		removes = append(removes, remove(of(one, n)))
	}
	imports(t, s, nil, nil, removes...)
	refused(t, "4097 removals", more, nil, nil, "Ann", api.ErrFull)
	expects(t, "4097 removals", more, nil, nil, 0, api.OK)
	imports(t, more.Copy(), files("10000", "", "z", "x"), nil, append(slices.Clone(removes[1:]), insert(of(two, 0), of(two, 0), "x"))...)
	var all []api.File
	for n := range 64 {
		all = append(all, api.File{Path: fmt.Sprint("z", n), Bytes: strings.Repeat("x", 4096)})
	}
	refused(t, "too many bytes, too", more, all, nil, "Ann", api.ErrFull)
	expects(t, "too many bytes, too", more, all, nil, 64*4096, api.OK)
}

// P17.1: as many Deps as may be, and one more.
func TestImportManyDeps(t *testing.T) {
	s := state.New()
	one := add(t, s, by("Bob", 1, create("a"), create("b"), insert(own(0), own(0), "x")))
	for n := range 4095 {
		add(t, s, by(fmt.Sprint(n), 2, insert(of(one, n%7/6), of(one, n%7/6), "y")))
	}
	other := s.Copy()
	empty := files("a", "", "b", "")
	c, e := weave.Import(s, empty, nil, "Ann")
	if e != api.OK || len(c.Deps) != 4096 || len(c.Ops) != 4096 || weave.Elements(c) != 4096 {
		t.Fatalf("%d deps, %d operations, error %d", len(c.Deps), len(c.Ops), e)
	}
	add(t, s, c)
	comes(t, s, empty)
	add(t, other, by("one more", 2, insert(of(one, 0), of(one, 0), "z")))
	add(t, other, by("Eve", 3, drop(of(one, 0), of(one, 2), 1))) // so that there are no more operations than may be
	refused(t, "4097 deps", other, empty, nil, "Ann", api.ErrFull)
	expects(t, "4097 deps", other, empty, nil, 4096, api.OK)
}

// P17.1: as many bytes as may be, and more.
func TestImportBytes(t *testing.T) {
	var all []api.File
	for n := range 64 {
		all = append(all, api.File{Path: string(rune('0' + n)), Bytes: strings.Repeat("x", 4096)})
	}
	refused(t, "64 files of 4096 bytes", state.New(), all, nil, "Ann", api.ErrLong)
	expects(t, "64 files of 4096 bytes", state.New(), all, nil, 64*4096, api.OK)
	most := func(last int) (int, api.Errno) {
		l := slices.Clone(all)
		l[63].Bytes = l[63].Bytes[:last]
		c, e := weave.Import(state.New(), l, nil, "Ann")
		b, _ := object.Encode(api.Object{Kind: api.KChange, Change: c})
		return len(b), e
	}
	n, _ := most(2000)
	if n == 0 {
		t.Fatal("63 files")
	}
	right := 2000 + api.MaxObject - n
	if n, e := most(right); n != api.MaxObject || e != api.OK {
		t.Errorf("%d bytes, error %d", n, e)
	}
	if n, e := most(right + 1); n != 0 || e != api.ErrLong {
		t.Errorf("%d bytes, error %d", n, e)
	}
}

// P17.2: the elements of any change.
func TestElements(t *testing.T) {
	for _, x := range []struct {
		ops []api.Op
		n   int
	}{
		{nil, 0},
		{[]api.Op{create("abc"), rename(own(0), "abc"), remove(own(0))}, 0},
		{[]api.Op{insert(own(0), own(0), "aé€𝄞")}, 4},
		{[]api.Op{insert(own(0), own(0), "ab"), drop(own(0), own(0), 3), insert(own(0), own(0), "c"), drop(own(0), own(0), 1)}, 7},
		{[]api.Op{insert(own(0), own(0), "a\xff"), insert(own(0), own(0), ""), insert(own(0), own(0), "x")}, 1},
		{[]api.Op{drop(own(0), own(0), -5), drop(own(0), own(0), 0), drop(own(0), own(0), 2), drop(own(0), own(0), math.MinInt)}, 2},
		{[]api.Op{{Kind: api.OInsert, Text: "ab", Count: 7, Path: "abc"}, {Kind: api.ODelete, Text: "ab", Count: 7}, {Kind: api.OCreate, Text: "x", Count: 1}, {Text: "x", Count: 1}, {Kind: 6, Text: "x", Count: 1}, {Kind: api.ORename, Text: "x", Count: 1}, {Kind: api.ORemove, Text: "x", Count: 1}}, 9},
		{[]api.Op{drop(own(0), own(0), math.MaxInt), drop(own(0), own(0), math.MaxInt), insert(own(0), own(0), "x")}, math.MaxInt},
		{[]api.Op{insert(own(0), own(0), strings.Repeat("é", 5000))}, 5000},
	} {
		c := api.Change{Ops: x.ops}
		if n := weave.Elements(c); n != x.n {
			t.Errorf("%.300s: %d; want %d", fmt.Sprint(x.ops), n, x.n)
		}
		c = api.Change{Time: -1, Deps: []api.Id{{}}, Author: "\xff", Ops: x.ops}
		if n := weave.Elements(c); n != x.n {
			t.Errorf("%.300s: %d; want %d", fmt.Sprint(c), n, x.n)
		}
	}
}

// P17.2: what is expected: documents that go count nothing, moved ones what their edits cost.
func TestExpect(t *testing.T) {
	s := state.New()
	add(t, s, by("Bob", 1, create("a"), insert(own(0), own(0), "abc"), create("b"), insert(own(4), own(4), "xyz")))
	for _, x := range []struct {
		files []api.File
		moves [][2]string
		n     int
	}{
		{nil, nil, 0},
		{files("a", "abc", "b", "xyz"), nil, 0},
		{files("b", "xé", "a", "ac"), nil, 4},
		{files("c", "abc"), nil, 3},
		{files("c", "abc"), moves([2]string{"a", "c"}), 0},
		{files("b", "axyz"), moves([2]string{"a", "b"}), 5},
		{files("b", "abc", "a", "xyz"), nil, 12},
		{files("b", "abc", "a", "xyz"), moves([2]string{"a", "b"}), 3},
		{files("b", "abc", "a", "xyz"), moves([2]string{"a", "b"}, [2]string{"b", "a"}), 0},
	} {
		expects(t, fmt.Sprint(x.files, x.moves), s, x.files, x.moves, x.n, api.OK)
	}
}

// R4, R5: what is handed in stays as it is, the room behind it, too; what is handed out is new each time.
func TestMemory(t *testing.T) {
	s := state.New()
	one := imports(t, s, files("a", "abc", "b", "x"), nil, create("a"), insert(own(0), own(0), "abc"), create("b"), insert(own(4), own(4), "x"))
	room := files("z", "1", "a", "abd", "c", "x", "b", "spare")
	paths := moves([2]string{"b", "c"}, [2]string{"a", "a"}, [2]string{"spare", "spare"})
	given, go1 := slices.Clone(room), slices.Clone(paths)
	first, e := weave.Import(s, room[:3], paths[:2], "Ann")
	if e != api.OK || !slices.Equal(room, given) || !slices.Equal(paths, go1) {
		t.Fatalf("%d: %v, %v", e, room, paths)
	}
	want := by("Ann", 2, drop(of(one, 0), of(one, 3), 1), insert(of(one, 0), of(one, 2), "d"), rename(of(one, 4), "c"), create("z"), insert(own(1), own(1), "1"))
	if !same(first, want) {
		t.Fatal(first)
	}
	second, _ := weave.Import(s, room[:3], paths[:2], "Ann")
	clear(first.Ops)
	clear(first.Deps)
	if third, _ := weave.Import(s, room[:3], paths[:2], "Ann"); !same(second, want) || !same(third, want) {
		t.Error(second, third)
	}
	comes(t, s, files("a", "abc", "b", "x"))
}
