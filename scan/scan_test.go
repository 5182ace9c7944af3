package scan_test

import (
	"math"
	"slices"
	"strings"
	"testing"

	"variorum/api"
	"variorum/object"
	"variorum/scan"
	"variorum/state"
	"variorum/weave"
)

// files is paths and texts in turn.
func files(l ...string) []api.File {
	var files []api.File
	for ; len(l) > 0; l = l[2:] {
		files = append(files, api.File{Path: l[0], Bytes: l[1]})
	}
	return files
}

func row(kind uint8, path, from string, cost int) scan.Row {
	return scan.Row{Kind: kind, Path: path, From: from, Cost: cost}
}

// put adds a change to a state.
func put(t *testing.T, s *state.State, c api.Change) api.Id {
	t.Helper()
	id, _ := object.Id(api.Object{Kind: api.KChange, Change: c})
	if e := s.Add(id, c); e != api.OK {
		t.Fatal(e)
	}
	return id
}

// of is a state with files.
func of(t *testing.T, files []api.File) *state.State {
	t.Helper()
	s := state.New()
	c, e := weave.Import(s, files, nil, "Ann")
	if e == api.OK {
		put(t, s, c)
	}
	return s
}

// is fails, unless these are the rows.
func is(t *testing.T, s *state.State, files []api.File, want ...scan.Row) {
	t.Helper()
	if got, e := scan.Status(s, files); e != api.OK || !slices.Equal(got, want) {
		t.Errorf("%.300q: %v, error %d; want %v", files, got, e, want)
	}
}

// The numbers of the kinds, and the examples of the chapter.
func TestExamples(t *testing.T) {
	if l := [...]uint8{scan.SAdd, scan.SEdit, scan.SGone, scan.SMove}; l != [...]uint8{1, 2, 3, 4} {
		t.Error(l)
	}
	s := of(t, files("a", "hello"))
	is(t, s, files("b", "hello!"), row(scan.SMove, "b", "a", 1))
	is(t, s, files("b", ""), row(scan.SGone, "a", "", 5), row(scan.SAdd, "b", "", 0))
	is(t, of(t, files("a", "")), files("b", ""), row(scan.SGone, "a", "", 0), row(scan.SAdd, "b", "", 0))
}

// P18.1: how like texts are, and those that are none, or have too many runes.
func TestLike(t *testing.T) {
	most := strings.Repeat("é", 4096) // more bytes than a file has
	for _, x := range []struct {
		a, b string
		like float64
	}{
		{"a", "a", 1},
		{"a", "b", 0},
		{"", "a", 0},
		{"abc", "axc", 4.0 / 6},
		{"hello", "hello!", 10.0 / 11},
		{"ab", "ba", 0.5},
		{"éa", "éb", 0.5},
		{"é", "è", 0}, // they share a byte, but no rune
		{"abcdef", "f", 2.0 / 7},
		{most, most, 1},
		{most, "é", 2.0 / 4097},
		{most, "", 0},
		{"\x00", "\x00\x00", 2.0 / 3},
	} {
		for _, y := range [][2]string{{x.a, x.b}, {x.b, x.a}} {
			if like := scan.Like(y[0], y[1]); like != x.like || math.Signbit(like) {
				t.Errorf("%.20q, %.20q: %v; want %v", y[0], y[1], like, x.like)
			}
		}
	}
	for _, x := range [][2]string{{"", ""}, {"\xff", "a"}, {"\xff", "\xff"}, {"a\xc3", ""}, {most + "a", most}, {most + "a", most + "a"}, {most + "a", ""}, {most + "a", "\xff"}} {
		for _, y := range [][2]string{x, {x[1], x[0]}} {
			if like := scan.Like(y[0], y[1]); !math.IsNaN(like) {
				t.Errorf("%.20q, %.20q: %v", y[0], y[1], like)
			}
		}
	}
}

// P18.2: the errors, each with all later ones beside it that may be.
func TestStatusErrors(t *testing.T) {
	s := state.New()
	c := api.Change{Time: 1, Author: "Ann", Ops: []api.Op{
		{Kind: api.OCreate, Path: "a"},
		{Kind: api.OInsert, Text: strings.Repeat("x", 4096)},
		{Kind: api.OCreate, Path: "b"},
	}}
	most := state.New()
	put(t, most, c)
	c.Ops = append(c.Ops, api.Op{Kind: api.OInsert, Text: "y"})
	id := put(t, s, c)
	for _, x := range []struct {
		what  string
		s     *state.State
		files []api.File
		e     api.Errno
	}{
		{"nil", nil, files("a//b", ""), api.ErrArg},
		{"nil, no files", nil, nil, api.ErrArg},
		{"too many files", s, slices.Repeat(files("", ""), 65), api.ErrFull},
		{"a path that is none", s, files("a", "", "b/", strings.Repeat("x", 4097), "a", ""), api.ErrName},
		{"a file that is too long", s, files("a", strings.Repeat("x", 4097), "", ""), api.ErrLong},
		{"a file that is no text", s, files("a", "\xff", "", ""), api.ErrText},
		{"paths that clash", s, files("a", "", "a/b", "", "", ""), api.ErrThere},
		{"a document that is too long", s, files("a", "x"), api.ErrLong},
		{"one that is gone", s, files("b", ""), api.ErrLong},
		{"no files", s, nil, api.ErrLong},
	} {
		if rows, e := scan.Status(x.s, x.files); e != x.e || len(rows) > 0 {
			t.Errorf("%s: %v, error %d; want %d", x.what, rows, e, x.e)
		}
	}
	// As many runes as may be are not too many, nor are more bytes, nor runes that are dead.
	is(t, most, files("a", "x"), row(scan.SEdit, "a", "", 4095), row(scan.SGone, "b", "", 0))
	put(t, most, api.Change{Time: 2, Deps: most.Ids(), Author: "Ann", Ops: []api.Op{
		{Kind: api.ODelete, Doc: api.Ref{Change: most.Ids()[0]}, At: api.Ref{Change: most.Ids()[0], Index: 1}, Count: 1},
		{Kind: api.OInsert, Doc: api.Ref{Change: most.Ids()[0]}, At: api.Ref{Change: most.Ids()[0], Index: 1}, Text: "é"},
	}})
	is(t, most, files("a", "x", "b", ""), row(scan.SEdit, "a", "", 4095))
	// One that is removed is not seen any more.
	put(t, s, api.Change{Time: 2, Deps: []api.Id{id}, Author: "Ann", Ops: []api.Op{{Kind: api.ORemove, Doc: api.Ref{Change: id}}}})
	is(t, s, files("b", "x"), row(scan.SEdit, "b", "", 1))
}

// P18.2: a row of each kind, in order of paths by their bytes; what stays as it is has none.
func TestStatusRows(t *testing.T) {
	s := of(t, files("same", "same", "empty", "", "é", "euro", "B", "edited", "gone", "1234567", "moved", "a text that moves", "a/b", "αβγ"))
	is(t, s, files("new", "é€", "é", "euros", "B", "edit", "c/moved", "a text, that moves", "empty", "", "same", "same", "a.b", ""),
		row(scan.SEdit, "B", "", 2),
		row(scan.SAdd, "a.b", "", 0),
		row(scan.SGone, "a/b", "", 3),
		row(scan.SMove, "c/moved", "moved", 1),
		row(scan.SGone, "gone", "", 7),
		row(scan.SAdd, "new", "", 2),
		row(scan.SEdit, "é", "", 1),
	)
	is(t, s, s.Files())
	is(t, state.New(), nil)
	is(t, state.New(), files("b", "x", "a", ""), row(scan.SAdd, "a", "", 0), row(scan.SAdd, "b", "", 1))
	is(t, of(t, files("b", "x", "a", "")), nil, row(scan.SGone, "a", "", 0), row(scan.SGone, "b", "", 1))
	is(t, of(t, files("a", "")), files("a", "x"), row(scan.SEdit, "a", "", 1))
}

// P18.2: a document that has another path than it wants has that path.
func TestStatusFresh(t *testing.T) {
	s := state.New()
	put(t, s, api.Change{Time: 1, Author: "Ann", Ops: []api.Op{
		{Kind: api.OCreate, Path: "a"},
		{Kind: api.OCreate, Path: "a"},
		{Kind: api.OInsert, Doc: api.Ref{Index: 1}, At: api.Ref{Index: 1}, Text: "xyz"},
	}})
	is(t, s, files("a", "", "a~1", "xyz"))
	is(t, s, files("a", "", "a~1", "xy"), row(scan.SEdit, "a~1", "", 1))
	is(t, s, files("a", "xyz"), row(scan.SEdit, "a", "", 3), row(scan.SGone, "a~1", "", 3))
	is(t, s, files("b", "xyz"), row(scan.SGone, "a", "", 0), row(scan.SMove, "b", "a~1", 0))
}

// P18.2: only what is gone moves, and only to what is new, be it ever so like; half alike is like enough, less is not.
func TestStatusMoves(t *testing.T) {
	s := of(t, files("a", "text", "b", "other"))
	is(t, s, files("a", "text", "b", "text"), row(scan.SEdit, "b", "", 5))
	is(t, s, files("a", "text", "b", "other", "c", "text"), row(scan.SAdd, "c", "", 4))
	is(t, s, files("b", "text"), row(scan.SGone, "a", "", 4), row(scan.SEdit, "b", "", 5))
	is(t, s, files("b", "other", "c", "teyy"), row(scan.SMove, "c", "a", 4))
	is(t, s, files("b", "other", "c", "tyyy"), row(scan.SGone, "a", "", 4), row(scan.SAdd, "c", "", 4))
	is(t, s, files("b", "other", "c", "teyyy"), row(scan.SGone, "a", "", 4), row(scan.SAdd, "c", "", 5))
	is(t, s, files("b", "other", "c", "text"+strings.Repeat("y", 8)), row(scan.SMove, "c", "a", 8))
	is(t, s, files("b", "other", "c", "text"+strings.Repeat("y", 9)), row(scan.SGone, "a", "", 4), row(scan.SAdd, "c", "", 13))
	xs, ys := strings.Repeat("x", 50), strings.Repeat("y", 100)
	is(t, of(t, files("a", xs)), files("b", ys+xs), row(scan.SMove, "b", "a", 100))
	is(t, of(t, files("a", xs)), files("b", ys+"y"+xs), row(scan.SGone, "a", "", 50), row(scan.SAdd, "b", "", 151))
	is(t, s, files("c", "other", "d", "text"), row(scan.SMove, "c", "b", 0), row(scan.SMove, "d", "a", 0))
}

// P18.2: the pair that is most like is told first, though others then find less; of the same ones the first document's, then the first file's.
func TestStatusBest(t *testing.T) {
	s := of(t, files("a", "abcdefgh", "b", "abcdefxy"))
	// a is like c by 7, d by 6 of 8; b like c by 6: so c comes of a, and b has d alone.
	is(t, s, files("c", "abcdefg-", "d", "abcdef--"), row(scan.SMove, "c", "a", 2), row(scan.SMove, "d", "b", 4))
	// b is most like c, so a must have d, less like than c is.
	is(t, s, files("c", "abcdefx-", "d", "ab--efgh"), row(scan.SMove, "c", "b", 2), row(scan.SMove, "d", "a", 4))
	// c comes of the one it is the same as, and nothing is like enough to the other.
	is(t, s, files("c", "abcdefxy", "d", "--------"), row(scan.SGone, "a", "", 8), row(scan.SMove, "c", "b", 0), row(scan.SAdd, "d", "", 8))
	s = of(t, files("q", "text", "p", "text", "r", "text"))
	is(t, s, files("y", "text", "x", "text"), row(scan.SGone, "r", "", 4), row(scan.SMove, "x", "p", 0), row(scan.SMove, "y", "q", 0))
	is(t, s, files("y", "text!", "x", "text!"), row(scan.SGone, "r", "", 4), row(scan.SMove, "x", "p", 1), row(scan.SMove, "y", "q", 1))
	is(t, s, files("y", "text", "x", "text!", "z", ""), row(scan.SGone, "r", "", 4), row(scan.SMove, "x", "q", 1), row(scan.SMove, "y", "p", 0), row(scan.SAdd, "z", "", 0))
}

// P18.2: as many files as may be, all moved: it takes little time where their texts are the same.
func TestStatusMany(t *testing.T) {
	var old, new []api.File
	var want []scan.Row
	for n := range 64 {
		name := string(rune('0' + n))
		text := strings.Repeat(name+"abcdefg", 512)
		old = append(old, api.File{Path: "old/" + name, Bytes: text[:4000]})
		new = append(new, api.File{Path: "new/" + name, Bytes: text[:4000]})
		want = append(want, row(scan.SMove, "new/"+name, "old/"+name, 0))
	}
	slices.Reverse(new)
	is(t, of(t, old), new, want...)
}

// P18.3: rows of any kind, in any order; only moves count.
func TestMoves(t *testing.T) {
	for _, x := range []struct {
		rows []scan.Row
		want [][2]string
	}{
		{nil, nil},
		{[]scan.Row{row(scan.SAdd, "a", "b", 1), row(scan.SEdit, "a", "b", 1), row(scan.SGone, "a", "b", 1), row(0, "a", "b", 1), row(5, "a", "b", 1)}, nil},
		{[]scan.Row{row(scan.SMove, "z", "b", 1), row(scan.SAdd, "m", "", 1), row(scan.SMove, "a", "c", 0), row(scan.SMove, "z", "b", -1), row(scan.SMove, "", "\xff", 0)},
			[][2]string{{"b", "z"}, {"c", "a"}, {"b", "z"}, {"\xff", ""}}},
	} {
		before := slices.Clone(x.rows)
		if got := scan.Moves(x.rows); !slices.Equal(got, x.want) || !slices.Equal(x.rows, before) {
			t.Errorf("%v: %q; want %q", x.rows, got, x.want)
		}
	}
}

// R4, R5: what is handed in stays as it is, the room behind it, too; what is handed out is new each time.
func TestMemory(t *testing.T) {
	s := of(t, files("a", "text", "b", "x"))
	room := files("z", "text", "c", "y", "spare", "")
	given := slices.Clone(room)
	want := []scan.Row{row(scan.SGone, "b", "", 1), row(scan.SAdd, "c", "", 1), row(scan.SMove, "z", "a", 0)}
	first, _ := scan.Status(s, room[:2])
	second, _ := scan.Status(s, room[:2])
	clear(first)
	is(t, s, room[:2], want...)
	if !slices.Equal(second, want) || !slices.Equal(room, given) {
		t.Error(second, room)
	}
	if l := s.Files(); !slices.Equal(l, files("a", "text", "b", "x")) {
		t.Error(l)
	}
}
