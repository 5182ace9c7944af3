package myers_test

import (
	"math"
	"math/rand"
	"slices"
	"strings"
	"testing"
	"time"

	"variorum/api"
	"variorum/myers"
)

// moves fails, unless the script of two rows is that one.
func moves(t *testing.T, a, b []rune, want []uint8) {
	t.Helper()
	got, e := myers.Moves(a, b)
	if !slices.Equal(got, want) || e != api.OK {
		t.Fatalf("%.60v to %.60v: %.60v, error %d; want %.60v", a, b, got, e, want)
	}
}

// leads fails, unless a script leads from a row to the other one, and drops and adds no more than it must.
func leads(t *testing.T, a, b []rune, cost int) {
	t.Helper()
	got, e := myers.Moves(a, b)
	i, j, edits := 0, 0, 0
	for _, move := range got {
		switch {
		case move == myers.MKeep && i < len(a) && j < len(b) && a[i] == b[j]:
			i++
			j++
		case move == myers.MDrop && i < len(a):
			i++
			edits++
		case move == myers.MAdd && j < len(b):
			j++
			edits++
		default:
			t.Fatalf("move %d at %d, %d", move, i, j)
		}
	}
	if e != api.OK || i != len(a) || j != len(b) || edits != cost {
		t.Fatalf("error %d, to %d of %d, %d of %d, with %d edits; want %d", e, i, len(a), j, len(b), edits, cost)
	}
}

// diff fails, unless the edits between two texts are these, and lead from the one to the other.
func diff(t *testing.T, a, b string, want ...api.Edit) {
	t.Helper()
	got, e := myers.Diff(a, b)
	if !slices.Equal(got, want) || e != api.OK {
		t.Fatalf("%.60q to %.60q: %.60v, error %d; want %.60v", a, b, got, e, want)
	}
	applied(t, a, got, b, api.OK)
	cost := 0
	for _, edit := range want {
		cost += edit.Drop + len([]rune(edit.Add))
	}
	if n := myers.Cost(got); n != cost {
		t.Errorf("%.60q to %.60q: cost %d; want %d", a, b, n, cost)
	}
}

// applied fails, unless edits of a text come to that.
func applied(t *testing.T, a string, l []api.Edit, want string, e api.Errno) {
	t.Helper()
	if got, f := myers.Apply(a, l); got != want || f != e {
		t.Errorf("%.60q with %.60v: %.60q, error %d; want %.60q, %d", a, l, got, f, want, e)
	}
}

// random is n numbers, each one of k.
func random(r *rand.Rand, n, k int) []rune {
	l := make([]rune, n)
	for i := range l {
		l[i] = 'a' + rune(r.Intn(k))
	}
	return l
}

// like is numbers that were dropped from, changed, and put between some others.
func like(r *rand.Rand, a []rune, edits, k int) []rune {
	b := slices.Clone(a)
	for range edits {
		at := r.Intn(len(b) + 1)
		if r.Intn(2) == 0 && at < len(b) {
			b = slices.Delete(b, at, min(len(b), at+1+r.Intn(3)))
		} else {
			b = slices.Insert(b, at, random(r, 1+r.Intn(3), k)...)
		}
	}
	return b
}

// The examples of the chapter.
func TestExamples(t *testing.T) {
	diff(t, "abc", "axc", api.Edit{Keep: 1, Drop: 1, Add: "x"}, api.Edit{Keep: 1})
	diff(t, "aab", "ab", api.Edit{Keep: 1, Drop: 1}, api.Edit{Keep: 1})
	diff(t, "", "")
	if myers.MKeep != 1 || myers.MDrop != 2 || myers.MAdd != 3 {
		t.Error(myers.MKeep, myers.MDrop, myers.MAdd)
	}
}

// P16.1: what is the same is kept, what may as well be dropped is dropped first.
func TestMoves(t *testing.T) {
	const k, d, a = myers.MKeep, myers.MDrop, myers.MAdd
	for _, c := range []struct {
		a, b string
		want []uint8
	}{
		{"", "", nil},
		{"", "ab", []uint8{a, a}},
		{"ab", "", []uint8{d, d}},
		{"a", "a", []uint8{k}},
		{"a", "b", []uint8{d, a}},
		{"ab", "cd", []uint8{d, d, a, a}},
		{"ab", "ba", []uint8{d, k, a}},         // either may be kept
		{"abc", "cab", []uint8{a, k, k, d}},    // to drop would cost more
		{"cab", "abc", []uint8{d, k, k, a}},    // to add would cost more
		{"aab", "ab", []uint8{k, d, k}},        // what is the same is kept, though the second one could be
		{"ab", "aab", []uint8{k, a, k}},        // likewise
		{"xay", "zaw", []uint8{d, a, k, d, a}}, // each as soon as may be
		{"abab", "baba", []uint8{d, k, k, k, a}},
		{"abcabba", "cbabac", []uint8{d, d, k, d, k, a, k, k, a}},
	} {
		want, _ := plainMoves([]rune(c.a), []rune(c.b))
		if !slices.Equal(want, c.want) {
			t.Errorf("the test's own: %q to %q: %v", c.a, c.b, want)
		}
		moves(t, []rune(c.a), []rune(c.b), c.want)
	}
	moves(t, nil, []rune{}, nil)
	moves(t, []rune{}, nil, nil)
}

// P16.1: numbers that are no runes, too.
func TestMovesNumbers(t *testing.T) {
	l := []rune{-1, math.MinInt32, math.MaxInt32, 0xd800, 0x110000, 0}
	for i, x := range l {
		for k, y := range l {
			want := []uint8{myers.MDrop, myers.MAdd}
			if i == k {
				want = []uint8{myers.MKeep}
			}
			moves(t, []rune{x}, []rune{y}, want)
		}
	}
	other := []rune{math.MinInt32, -1, 0xd800, 0, 0x110001}
	want, _ := plainMoves(l, other)
	moves(t, l, other, want)
}

// P16.1: all short rows.
func TestMovesAll(t *testing.T) {
	var rows [][]rune
	for n := range 7 {
		for x := range 1 << n {
			row := make([]rune, n)
			for i := range row {
				row[i] = rune(x >> i & 1)
			}
			rows = append(rows, row)
		}
	}
	for n, x := 0, 1; n < 5; n, x = n+1, x*3 { // of three numbers
		for y := range x {
			var row []rune
			for z, i := y, 0; i < n; z, i = z/3, i+1 {
				row = append(row, rune(z%3))
			}
			rows = append(rows, row)
		}
	}
	for _, a := range rows {
		for _, b := range rows {
			want, cost := plainMoves(a, b)
			moves(t, a, b, want)
			leads(t, a, b, cost)
		}
	}
}

// P16.1, P16.2, P16.4: as the chapter tells it, of random rows, alike and unlike, of few and many numbers.
func TestMovesPlain(t *testing.T) {
	r := rand.New(rand.NewSource(1))
	for i := range 3000 {
		k := 1 + r.Intn(1+i%40)
		a := random(r, r.Intn(1+i%150), k)
		b := random(r, r.Intn(1+i%90), k)
		if i%3 > 0 {
			b = like(r, a, r.Intn(1+i%60), k)
		}
		want, cost := plainMoves(a, b)
		moves(t, a, b, want)
		leads(t, a, b, cost)
		if cost != len(a)+len(b)-2*common(a, b) {
			t.Fatalf("cost %d", cost)
		}
		diff(t, string(a), string(b), plainEdits(want, string(b))...)
	}
}

// P16.1: as many edits as lists that are kept, some less, some more.
func TestMovesLists(t *testing.T) {
	r := rand.New(rand.NewSource(2))
	for _, edits := range []int{62, 63, 64, 65, 66, 127, 128, 129, 191, 192, 193, 320} {
		for _, part := range []int{0, 1, edits / 2, edits - 1, edits} { // dropped, the others added
			a, b := random(r, part, 1), slices.Repeat([]rune{'z'}, edits-part)
			want, cost := plainMoves(a, b)
			if cost != edits {
				t.Fatal(cost)
			}
			moves(t, a, b, want)
			middle := random(r, 50, 3) // of which some may be kept in many ways
			a, b = slices.Concat(a, middle, a, middle), slices.Concat(middle, b, middle, b)
			want, _ = plainMoves(a, b)
			moves(t, a, b, want)
			moves(t, slices.Concat(middle, a, middle), slices.Concat(middle, b, middle), slices.Concat(slices.Repeat([]uint8{1}, 50), want, slices.Repeat([]uint8{1}, 50)))
		}
	}
	for i := range 60 { // long rows, all of whose parts are unlike in their own way
		k := 2 + i%7
		a, b := random(r, 100+r.Intn(700), k), random(r, 100+r.Intn(700), k)
		if i%2 == 0 {
			b = like(r, slices.Concat(b[:r.Intn(len(b))], a, a[:r.Intn(len(a))]), r.Intn(200), k)
		}
		want, cost := plainMoves(a, b)
		moves(t, a, b, want)
		leads(t, a, b, cost)
	}
}

// P16.1, R1: rows of MaxFile numbers, soon enough, and one more.
func TestMovesMany(t *testing.T) {
	const n = api.MaxFile
	r := rand.New(rand.NewSource(3))
	begun := time.Now()
	same := slices.Repeat([]rune{'a'}, n)
	unlike := slices.Repeat([]rune{'b'}, n)
	for _, x := range [][2][]rune{{same, same}, {same, unlike}, {same, nil}, {nil, same}, {same, unlike[:1]}, {same[:n-1], same}, {random(r, n, 2), random(r, n, 2)}, {random(r, n, 20), random(r, n, 20)}, {random(r, n, n), random(r, n, n)}, {random(r, n, 3), random(r, n/2, 3)}} {
		a, b := x[0], x[1]
		leads(t, a, b, len(a)+len(b)-2*common(a, b))
		want, _ := plainMoves(a, b)
		moves(t, a, b, want)
	}
	if d := time.Since(begun); d > 2*time.Minute {
		t.Errorf("%v", d)
	}
	for _, x := range [][2][]rune{{append(same, 'a'), nil}, {nil, append(same, 'a')}, {append(same, 'a'), append(same, 'a')}, {make([]rune, 1<<20), {1}}} {
		if l, e := myers.Moves(x[0], x[1]); len(l) > 0 || e != api.ErrLong {
			t.Errorf("%d, %d numbers: %.60v, error %d", len(x[0]), len(x[1]), l, e)
		}
	}
}

// P16.2: where an edit ends.
func TestDiff(t *testing.T) {
	diff(t, "a", "a", api.Edit{Keep: 1})
	diff(t, "a", "", api.Edit{Drop: 1})
	diff(t, "", "a", api.Edit{Add: "a"})
	diff(t, "ab", "cd", api.Edit{Drop: 2, Add: "cd"})
	diff(t, "ab", "ba", api.Edit{Drop: 1}, api.Edit{Keep: 1, Add: "a"})
	diff(t, "xay", "zaw", api.Edit{Drop: 1, Add: "z"}, api.Edit{Keep: 1, Drop: 1, Add: "w"})
	diff(t, "hello", "hello!", api.Edit{Keep: 5, Add: "!"})
	diff(t, "hello", "ello", api.Edit{Drop: 1}, api.Edit{Keep: 4})
	diff(t, "a\r\nb", "a\nb", api.Edit{Keep: 1, Drop: 1}, api.Edit{Keep: 2})
	diff(t, "αβγ", "αxγ", api.Edit{Keep: 1, Drop: 1, Add: "x"}, api.Edit{Keep: 1}) // runes, not bytes
	diff(t, "é", "è", api.Edit{Drop: 1, Add: "è"})
	diff(t, "\x00𝄞\U0010ffff\ufeff", "𝄞\x00\U0010ffff\ufffd", api.Edit{Drop: 1}, api.Edit{Keep: 1, Add: "\x00"}, api.Edit{Keep: 1, Drop: 1, Add: "\ufffd"})
	diff(t, "abcabba", "cbabac", api.Edit{Drop: 2}, api.Edit{Keep: 1, Drop: 1}, api.Edit{Keep: 1, Add: "a"}, api.Edit{Keep: 2, Add: "c"})
	diff(t, "bab", "acca", api.Edit{Drop: 1}, api.Edit{Keep: 1, Drop: 1, Add: "cca"}) // what is dropped and added in turn is one edit
}

// P16.2: no texts, and too long ones; no text first.
func TestDiffErrors(t *testing.T) {
	long := strings.Repeat("é", api.MaxFile)
	for _, c := range []struct {
		a, b string
		e    api.Errno
	}{
		{"\xff", "", api.ErrText},
		{"", "\xff", api.ErrText},
		{"\xc0\x80", "\xed\xa0\x80", api.ErrText},
		{"\xff", "\xff", api.ErrText},
		{"a", "ab\xc3", api.ErrText},
		{long + "a", "\xff", api.ErrText},
		{"\xff", long + "a", api.ErrText},
		{long + "a\xff", "a", api.ErrText},
		{"a", long + "\xf4\x90\x80\x80", api.ErrText},
		{long + "a", "", api.ErrLong},
		{"", long + "a", api.ErrLong},
		{long + "é", long + "é", api.ErrLong},
		{strings.Repeat("a", 1<<20), "b", api.ErrLong},
	} {
		if l, e := myers.Diff(c.a, c.b); len(l) > 0 || e != c.e {
			t.Errorf("%.20q to %.20q: %.60v, error %d", c.a, c.b, l, e)
		}
	}
	diff(t, long, long, api.Edit{Keep: api.MaxFile}) // more bytes than MaxFile, but not runes
	diff(t, long, "", api.Edit{Drop: api.MaxFile})
	diff(t, "", long, api.Edit{Add: long})
}

// P16.3: how much edits cost, whatever they are.
func TestCost(t *testing.T) {
	for _, c := range []struct {
		l    []api.Edit
		cost int
	}{
		{nil, 0},
		{[]api.Edit{}, 0},
		{[]api.Edit{{}}, 0},
		{[]api.Edit{{Keep: 5}}, 0},
		{[]api.Edit{{Keep: -5, Drop: 2}}, 2},
		{[]api.Edit{{Drop: 1, Add: "αβ"}, {Keep: 9, Drop: 3, Add: "x"}, {Add: "𝄞"}}, 8},
		{[]api.Edit{{Drop: -1}}, 0},
		{[]api.Edit{{Drop: -3, Add: "ab"}, {Drop: 4}}, 6}, // its Add counts
		{[]api.Edit{{Drop: math.MinInt}, {Drop: math.MinInt, Add: "a"}}, 1},
		{[]api.Edit{{Drop: 2, Add: "ab\xff"}, {Add: "\xc3"}, {Add: "c"}}, 3}, // one that is no text has none
		{[]api.Edit{{Drop: math.MaxInt}}, math.MaxInt},
		{[]api.Edit{{Drop: math.MaxInt - 2, Add: "ab"}}, math.MaxInt},
		{[]api.Edit{{Drop: math.MaxInt, Add: "ab"}, {Drop: math.MaxInt}}, math.MaxInt}, // it does not go round (R6)
	} {
		if n := myers.Cost(c.l); n != c.cost {
			t.Errorf("%v: %d; want %d", c.l, n, c.cost)
		}
	}
}

// P16.3: what edits come to, those that Diff would not tell, too.
func TestApply(t *testing.T) {
	applied(t, "", nil, "", api.OK)
	applied(t, "", []api.Edit{}, "", api.OK)
	applied(t, "", []api.Edit{{}, {}}, "", api.OK)
	applied(t, "", []api.Edit{{Add: "a"}, {Add: "b"}}, "ab", api.OK)
	applied(t, "αβγδ", []api.Edit{{Keep: 1, Drop: 2, Add: "x"}, {Keep: 1, Add: "y"}}, "αxδy", api.OK)
	applied(t, "αβγδ", []api.Edit{{Keep: 4}}, "αβγδ", api.OK)
	applied(t, "αβγδ", []api.Edit{{Drop: 4}}, "", api.OK)
	applied(t, "αβγδ", []api.Edit{{Keep: 1}, {Keep: 1}, {}, {Drop: 1}, {Drop: 1, Add: "𝄞"}}, "αβ𝄞", api.OK)
	applied(t, "ab", []api.Edit{{Add: "x"}, {Drop: 1, Add: "a"}, {Keep: 1}}, "xab", api.OK)
	applied(t, "\ufffda", []api.Edit{{Keep: 2}}, "\ufffda", api.OK)
	long := strings.Repeat("aé", 3*api.MaxFile) // no limit is told
	applied(t, long, []api.Edit{{Keep: api.MaxFile, Drop: 5 * api.MaxFile, Add: long}}, long[:3*api.MaxFile/2]+long, api.OK)
	for _, edits := range [][]api.Edit{
		nil, {{}}, {{Keep: 1}}, {{Keep: 3}}, {{Drop: 1}}, {{Drop: 3}}, {{Keep: 2, Drop: 1}}, {{Keep: 1, Drop: 2}}, {{Keep: 2}, {Drop: 1}}, {{Add: "ab"}},
		{{Keep: -1}}, {{Keep: 3}, {Keep: -1}}, {{Keep: -1}, {Keep: 3}}, {{Drop: -1, Keep: 3}}, {{Keep: -1, Drop: 3}}, {{Drop: 3}, {Drop: -1}}, {{Keep: 2, Drop: -1}}, {{Keep: 2}, {Keep: -1, Drop: 1}},
		{{Keep: math.MaxInt, Drop: math.MaxInt}, {Keep: 2, Drop: 2}}, {{Keep: 1, Drop: math.MaxInt}}, {{Keep: math.MinInt, Drop: math.MinInt}, {Keep: 2}}, {{Drop: math.MaxInt}, {Keep: math.MaxInt}, {Keep: 4}}, {{Keep: math.MinInt}, {Keep: math.MaxInt}, {Keep: 3}},
	} {
		applied(t, "éa", edits, "", api.ErrArg)
	}
	for _, c := range []struct {
		a string
		l []api.Edit
	}{
		{"\xff", []api.Edit{{Keep: 1}}},
		{"a\xc3", nil},
		{"\xff", []api.Edit{{Keep: -1}}},
		{"a", []api.Edit{{Keep: 1, Add: "\xff"}}},
		{"a", []api.Edit{{Keep: -1}, {Add: "\xed\xa0\x80"}}}, // ahead of the others
		{"a", []api.Edit{{Keep: 9}, {Keep: 9}, {Add: "a\x80"}}},
		{"\xff", []api.Edit{{Add: "\xff"}}},
	} {
		applied(t, c.a, c.l, "", api.ErrText)
	}
}

// P16.4: no other edits cost less.
func TestLeast(t *testing.T) {
	var tell func(a, b []rune, cost int) int
	tell = func(a, b []rune, cost int) int { // the least cost of all ways, each tried
		switch {
		case len(a) == 0:
			return cost + len(b)
		case len(b) == 0:
			return cost + len(a)
		}
		least := min(tell(a[1:], b, cost+1), tell(a, b[1:], cost+1))
		if a[0] == b[0] {
			least = min(least, tell(a[1:], b[1:], cost))
		}
		return least
	}
	r := rand.New(rand.NewSource(4))
	for range 300 {
		a, b := random(r, r.Intn(7), 3), random(r, r.Intn(7), 3)
		l, _ := myers.Diff(string(a), string(b))
		if n := myers.Cost(l); n != tell(a, b, 0) {
			t.Errorf("%q to %q: %d", string(a), string(b), n)
		}
	}
}

// R4: what is handed in is not changed, the room behind it neither; what is handed out is new.
func TestMemory(t *testing.T) {
	a, b := []rune("abcabba??"), []rune("cbabac!!!")
	want, _ := plainMoves(a[:7], b[:6])
	for range 2 {
		got, _ := myers.Moves(a[:7], b[:6])
		moves(t, a[:7], b[:6], want)
		clear(append(got, 9))
		clear(got)
	}
	if string(a) != "abcabba??" || string(b) != "cbabac!!!" {
		t.Errorf("%q, %q", string(a), string(b))
	}
	l, _ := myers.Diff("abc", "axc")
	room := append(l, api.Edit{Keep: 9}, api.Edit{Drop: 9})
	applied(t, "abc", room[:2], "axc", api.OK)
	myers.Cost(room[:2])
	if !slices.Equal(room, []api.Edit{{Keep: 1, Drop: 1, Add: "x"}, {Keep: 1}, {Keep: 9}, {Drop: 9}}) {
		t.Error(room)
	}
	clear(room)
	diff(t, "abc", "axc", api.Edit{Keep: 1, Drop: 1, Add: "x"}, api.Edit{Keep: 1})
}
