package register_test

import (
	"bytes"
	"cmp"
	"fmt"
	"math"
	"math/rand"
	"slices"
	"strings"
	"testing"
	"time"

	"variorum/api"
	"variorum/register"
)

// at is the key of a time.
func at(time int) api.Key { return api.Key{Time: time} }

func create(time, doc int, path string) register.Claim {
	return register.Claim{Key: at(time), Doc: at(doc), Kind: api.OCreate, Path: path}
}

func rename(time, doc int, path string) register.Claim {
	return register.Claim{Key: at(time), Doc: at(doc), Kind: api.ORename, Path: path}
}

func remove(time, doc int) register.Claim {
	return register.Claim{Key: at(time), Doc: at(doc), Kind: api.ORemove}
}

func compare(a, b api.Key) int {
	return cmp.Or(cmp.Compare(a.Time, b.Time), bytes.Compare(a.Change[:], b.Change[:]), cmp.Compare(a.Index, b.Index))
}

// clash: are two paths the same, or is one a part of the way to the other?
func clash(a, b string) bool {
	return a == b || strings.HasPrefix(a, b+"/") || strings.HasPrefix(b, a+"/")
}

// plainLast is a document's last claim, as the chapter tells it.
func plainLast(l []register.Claim, doc api.Key) (last register.Claim, ok bool) {
	for _, c := range l {
		if c.Doc == doc && (!ok || compare(c.Key, last.Key) > 0) {
			last, ok = c, true
		}
	}
	return last, ok
}

// plainPaths is what paths documents have, as the chapters tell it.
func plainPaths(l []register.Claim) []register.Named {
	var docs []api.Key
	for _, c := range l {
		docs = append(docs, c.Doc)
	}
	slices.SortFunc(docs, compare)
	var named []register.Named
	for _, doc := range slices.Compact(docs) {
		last, _ := plainLast(l, doc)
		if last.Kind == api.ORemove {
			continue
		}
		first, rest, deep := strings.Cut(last.Path, "/")
		if deep {
			rest = "/" + rest
		}
		path := last.Path
		for n := 1; slices.ContainsFunc(named, func(other register.Named) bool { return clash(path, other.Path) }); n++ {
			path = fmt.Sprintf("%s~%d%s", first, n, rest)
		}
		named = append(named, register.Named{Doc: doc, Path: path})
	}
	return named
}

// is fails, unless claims, which may be, are told as these paths, in whichever order they are listed.
func is(t *testing.T, l []register.Claim, want []register.Named) {
	t.Helper()
	r := rand.New(rand.NewSource(1))
	l = slices.Clone(l)
	for range 4 {
		if !register.Right(l) {
			t.Fatalf("%v: may not be", l)
		}
		if got := register.Paths(l); !slices.Equal(got, want) {
			t.Fatalf("%v: %v; want %v", l, got, want)
		}
		for i, n := range want {
			if doc, ok := register.Find(l, n.Path); doc != n.Doc || !ok {
				t.Errorf("%q: %v, %v; want %v", n.Path, doc, ok, n.Doc)
			}
			for _, other := range want[:i] {
				if clash(n.Path, other.Path) {
					t.Errorf("%q and %q", n.Path, other.Path)
				}
			}
		}
		r.Shuffle(len(l), func(i, k int) { l[i], l[k] = l[k], l[i] })
	}
}

// paths is documents of times and their paths.
func paths(l ...any) []register.Named {
	var named []register.Named
	for i := 0; i < len(l); i += 2 {
		named = append(named, register.Named{Doc: at(l[i].(int)), Path: l[i+1].(string)})
	}
	return named
}

// absent fails, unless no document has these paths.
func absent(t *testing.T, l []register.Claim, paths ...string) {
	t.Helper()
	for _, path := range paths {
		if doc, ok := register.Find(l, path); doc != (api.Key{}) || ok {
			t.Errorf("%v: %q: %v, %v", l, path, doc, ok)
		}
	}
}

// wrong fails, unless claims are told to be such as may not be.
func wrong(t *testing.T, l ...register.Claim) {
	t.Helper()
	if register.Right(l) {
		t.Errorf("%v: may be", l)
	}
	if got := register.Paths(l); len(got) > 0 {
		t.Errorf("%v: %v", l, got)
	}
	for _, c := range l {
		absent(t, l, c.Path, "a", "")
		if last, ok := register.Last(l, c.Doc); last != (register.Claim{}) || ok {
			t.Errorf("%v: %v, %v", l, last, ok)
		}
	}
}

// The examples of the chapter.
func TestExamples(t *testing.T) {
	l := []register.Claim{create(1, 1, "a"), create(2, 2, "a")}
	is(t, l, paths(1, "a", 2, "a~1"))
	l = append(l, rename(3, 1, "b"))
	is(t, l, paths(1, "b", 2, "a"))
	l = append(l, remove(4, 1))
	is(t, l, paths(2, "a"))
	absent(t, l, "b", "a~1")
}

// P14.1: no claims, and each kind alone.
func TestFew(t *testing.T) {
	for _, l := range [][]register.Claim{nil, {}} {
		is(t, l, nil)
		absent(t, l, "", "a")
		if last, ok := register.Last(l, api.Key{}); last != (register.Claim{}) || ok {
			t.Errorf("%v, %v", last, ok)
		}
	}
	is(t, []register.Claim{create(1, 1, "a")}, paths(1, "a"))
	is(t, []register.Claim{rename(1, 1, "a")}, paths(1, "a"))
	is(t, []register.Claim{remove(1, 1)}, nil)
	is(t, []register.Claim{create(0, 0, "a")}, paths(0, "a"))
	is(t, []register.Claim{create(7, 1, "a/b"), remove(6, 1)}, paths(1, "a/b")) // the last key decides, not the kind
	is(t, []register.Claim{create(6, 1, "a/b"), rename(5, 1, "b"), create(4, 1, "c")}, paths(1, "a/b"))
	is(t, []register.Claim{remove(5, 1), rename(6, 1, "b")}, paths(1, "b")) // it is shown again
}

// P14.1: which claims may not be.
func TestWrong(t *testing.T) {
	ok := create(1, 1, "a")
	for kind := range 256 {
		c := register.Claim{Key: at(2), Doc: at(2), Kind: uint8(kind), Path: "b"}
		named := uint8(kind) == api.OCreate || uint8(kind) == api.ORename
		if named {
			is(t, []register.Claim{ok, c}, paths(1, "a", 2, "b"))
		} else {
			wrong(t, ok, c)
			wrong(t, c)
		}
		c.Path = ""
		if uint8(kind) == api.ORemove {
			is(t, []register.Claim{ok, c}, paths(1, "a"))
		} else {
			wrong(t, c, ok)
		}
	}
	for _, path := range []string{"", "/", "a/", "/a", "a//b", ".", "..", "a/./b", "../a", "a\n", "\x7f", "\xff", strings.Repeat("a", 65)} {
		wrong(t, ok, create(2, 2, path))
		wrong(t, rename(2, 2, path), ok)
		if path != "" {
			wrong(t, register.Claim{Key: at(2), Doc: at(2), Kind: api.ORemove, Path: path})
		}
	}
	is(t, []register.Claim{create(2, 2, strings.Repeat("a", 64))}, paths(2, strings.Repeat("a", 64)))
	wrong(t, ok, ok)
	wrong(t, ok, create(1, 2, "b")) // of another document
	wrong(t, ok, remove(1, 1))
	wrong(t, ok, create(2, 2, "b"), rename(3, 1, "c"), remove(2, 3))
	key := api.Key{Time: 1, Change: api.Id{31: 1}, Index: 1} // all of it must be the same
	is(t, []register.Claim{
		{Key: key, Doc: at(1), Kind: api.OCreate, Path: "a"},
		{Key: api.Key{Time: 2, Change: key.Change, Index: 1}, Doc: at(2), Kind: api.OCreate, Path: "b"},
		{Key: api.Key{Time: 1, Change: api.Id{0: 1}, Index: 1}, Doc: at(3), Kind: api.OCreate, Path: "c"},
		{Key: api.Key{Time: 1, Change: key.Change, Index: 2}, Doc: at(4), Kind: api.OCreate, Path: "d"},
	}, paths(1, "a", 2, "b", 3, "c", 4, "d"))
}

// P14.1: the claim with the last key: times decide, then changes, then indexes.
func TestLast(t *testing.T) {
	keys := []api.Key{ // from the first to the last
		{Time: math.MinInt, Change: api.Id{255}, Index: 9},
		{Time: -1, Index: 9},
		{Index: -1},
		{},
		{Index: math.MaxInt},
		{Change: api.Id{31: 1}, Index: -5},
		{Change: api.Id{0: 1}},
		{Change: api.Id{0: 128}},
		{Time: 1, Index: -9},
		{Time: math.MaxInt},
	}
	doc, other := api.Key{Time: 5, Change: api.Id{1: 1}, Index: 5}, api.Key{Time: 5, Change: api.Id{1: 1}, Index: 6}
	for i, a := range keys {
		for j, b := range keys {
			if i == j {
				continue
			}
			l := []register.Claim{{Key: a, Doc: doc, Kind: api.ORename, Path: "a"}, {Key: b, Doc: doc, Kind: api.OCreate, Path: "b"}}
			want := l[0]
			if i < j {
				want = l[1]
			}
			if last, ok := register.Last(l, doc); last != want || !ok {
				t.Errorf("%v: %v, %v", l, last, ok)
			}
			is(t, l, []register.Named{{Doc: doc, Path: want.Path}})
			if last, ok := register.Last(l, other); last != (register.Claim{}) || ok {
				t.Errorf("%v: %v, %v", l, last, ok)
			}
		}
	}
	l := []register.Claim{create(1, 1, "a"), remove(3, 1), create(2, 2, "b")}
	if last, ok := register.Last(l, at(1)); last != l[1] || !ok { // of one that is not shown, too
		t.Errorf("%v, %v", last, ok)
	}
	if last, ok := register.Last(l, at(2)); last != l[2] || !ok {
		t.Errorf("%v, %v", last, ok)
	}
}

// P14.2: documents stand in order of their own keys, whenever their claims were made.
func TestPaths(t *testing.T) {
	is(t, []register.Claim{create(9, 1, "a"), create(1, 9, "a")}, paths(1, "a", 9, "a~1"))
	is(t, []register.Claim{create(1, -1, "a"), create(2, math.MaxInt, "a"), create(3, math.MinInt, "a"), create(4, 0, "a")},
		paths(math.MinInt, "a", -1, "a~1", 0, "a~2", math.MaxInt, "a~3"))
	is(t, []register.Claim{create(1, 1, "a"), create(2, 2, "a/b"), create(3, 3, "a~1"), create(4, 4, "a~1/b")},
		paths(1, "a", 2, "a~1/b", 3, "a~1~1", 4, "a~1~2/b"))
	is(t, []register.Claim{create(1, 1, "a/b"), create(2, 2, "a"), create(3, 3, "a/b"), create(4, 4, "a/c")},
		paths(1, "a/b", 2, "a~1", 3, "a~2/b", 4, "a/c"))
	is(t, []register.Claim{create(1, 1, "a~1"), create(2, 2, "a"), create(3, 3, "a")}, paths(1, "a~1", 2, "a", 3, "a~2"))
	is(t, []register.Claim{create(1, 1, "a"), create(2, 2, "a"), create(3, 3, "a"), remove(4, 2)}, paths(1, "a", 3, "a~1")) // one that is not shown takes none
	is(t, []register.Claim{create(1, 1, "b"), create(2, 2, "a"), rename(3, 1, "a")}, paths(1, "a", 2, "a~1"))               // the earlier document has it, though it wants it later
	long := strings.Repeat("a", 64)
	is(t, []register.Claim{create(1, 1, long), create(2, 2, long)}, paths(1, long, 2, long+"~1")) // made fresh it may have more bytes than a path
}

// P14.2: which document has a path, which is not always the one that wants it.
func TestFind(t *testing.T) {
	l := []register.Claim{create(1, 1, "a"), create(2, 2, "a/b"), create(3, 3, "c"), remove(4, 3)}
	is(t, l, paths(1, "a", 2, "a~1/b"))
	absent(t, l, "a/b", "a~1", "b", "c", "", "A", "a/", "\xff", "a~1/b/c", "a~2")
	l = append(l, rename(5, 1, "a~1/b"))
	is(t, l, paths(1, "a~1/b", 2, "a/b"))
	absent(t, l, "a", "a~1")
}

// random is some claims that may be, few documents and paths, so that they meet.
func random(r *rand.Rand, n int) []register.Claim {
	met := map[api.Key]bool{}
	var l []register.Claim
	key := func(n int) api.Key {
		return api.Key{Time: r.Intn(n), Change: api.Id{byte(r.Intn(2)), 31: byte(r.Intn(2))}, Index: r.Intn(3)}
	}
	for len(l) < n {
		c := register.Claim{Key: key(9), Doc: key(2), Kind: api.OCreate + uint8(r.Intn(3))}
		if c.Kind != api.ORemove {
			c.Path = []string{"a", "a/b", "a/b/c", "a~1", "a~1/b", "a~2", "a~01", "b", "é", "a~1~1", "ab"}[r.Intn(11)]
		}
		if !met[c.Key] {
			met[c.Key] = true
			l = append(l, c)
		}
	}
	return l
}

// P14.1 to P14.3: as the chapter tells it, of random claims.
func TestPlain(t *testing.T) {
	r := rand.New(rand.NewSource(2))
	for range 3000 {
		l := random(r, r.Intn(30))
		is(t, l, plainPaths(l))
		for _, doc := range append([]api.Key{{}, {Time: 99}}, at(1), at(2)) {
			last, ok := register.Last(l, doc)
			if want, there := plainLast(l, doc); last != want || ok != there {
				t.Errorf("%v: %v, %v; want %v, %v", l, last, ok, want, there)
			}
		}
		for _, c := range l {
			last, ok := register.Last(l, c.Doc)
			if want, _ := plainLast(l, c.Doc); last != want || !ok {
				t.Errorf("%v: %v, %v; want %v", l, last, ok, want)
			}
		}
		if t.Failed() {
			t.FailNow()
		}
	}
}

// R4: what is handed in is not changed, the room behind it neither; what is handed out is new.
func TestMemory(t *testing.T) {
	r := rand.New(rand.NewSource(3))
	room := append(random(r, 20), register.Claim{Path: "x"}, create(9, 9, "y"))
	l, kept := room[:20], slices.Clone(room)
	want := slices.Clone(register.Paths(l))
	for range 2 {
		got := register.Paths(l)
		clear(append(got, register.Named{}))
		clear(got)
		is(t, l, want)
		register.Last(l, at(1))
		if !slices.Equal(room, kept) {
			t.Fatal("changed")
		}
	}
}

// R1: many claims, and many documents that want one path.
func TestMany(t *testing.T) {
	begun := time.Now()
	const n = 1 << 12
	var l []register.Claim
	for i := range n {
		l = append(l, create(i, i, "a/b"))
	}
	named := register.Paths(l)
	if len(named) != n || named[0].Path != "a/b" || named[n-1].Path != fmt.Sprintf("a~%d/b", n-1) {
		t.Errorf("%d: %.3v", len(named), named)
	}
	for i := n; i < n<<6; i++ {
		l = append(l, rename(i, i%64, fmt.Sprintf("c%d", i)))
	}
	if last, ok := register.Last(l, at(63)); last != l[len(l)-1] || !ok {
		t.Errorf("%v, %v", last, ok)
	}
	if took := time.Since(begun); took > time.Minute {
		t.Errorf("%v", took)
	}
}
