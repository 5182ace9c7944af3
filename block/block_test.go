package block_test

import (
	"math"
	"math/rand"
	"slices"
	"strings"
	"testing"
	"time"

	"variorum/api"
	"variorum/block"
)

const maxIndex = 1<<31 - 1

// key is one of a time, a change that begins with a letter, and an index.
func key(time int, change byte, index int) api.Key {
	return api.Key{Time: time, Change: api.Id{change}, Index: index}
}

var nowhere = key(99, 'z', 99) // of no element

// put inserts, and fails, unless that may be.
func put(t *testing.T, d *block.Doc, k, at api.Key, s string) {
	t.Helper()
	if e := d.Insert(k, at, false, s); e != api.OK {
		t.Fatalf("%v behind %v: error %d", k, at, e)
	}
}

// putFirst likewise, at the beginning.
func putFirst(t *testing.T, d *block.Doc, k api.Key, s string) {
	t.Helper()
	if e := d.Insert(k, nowhere, true, s); e != api.OK {
		t.Fatalf("%v first: error %d", k, e)
	}
}

// drop deletes, and fails, unless that may be.
func drop(t *testing.T, d *block.Doc, k api.Key, n int) {
	t.Helper()
	if e := d.Delete(k, n); e != api.OK {
		t.Fatalf("%d from %v on: error %d", n, k, e)
	}
}

// says fails, unless a document's text is that, in these pieces, and it has so many elements.
func says(t *testing.T, d *block.Doc, text string, size int, pieces ...block.Piece) {
	t.Helper()
	if d.Text() != text || d.Len() != len([]rune(text)) || d.Size() != size {
		t.Errorf("%q, %d live of %d; want %q of %d", d.Text(), d.Len(), d.Size(), text, size)
	}
	if got := d.Pieces(); !slices.Equal(got, pieces) {
		t.Errorf("%v; want %v", got, pieces)
	}
}

// stands fails, unless an element is found there; a live one is told of its place, too.
func stands(t *testing.T, d *block.Doc, k api.Key, place int, live bool) {
	t.Helper()
	if got, alive, e := d.Find(k); got != place || alive != live || e != api.OK {
		t.Errorf("%v: place %d, live %v, error %d; want %d, %v", k, got, alive, e, place, live)
	}
	if got, e := d.At(place); live && (got != k || e != api.OK) {
		t.Errorf("at %d: %v, error %d; want %v", place, got, e, k)
	}
}

// The examples of the chapter.
func TestExamples(t *testing.T) {
	d := block.New()
	putFirst(t, d, key(1, 'c', 0), "ab")
	put(t, d, key(2, 'd', 0), key(1, 'c', 0), "x")
	says(t, d, "axb", 3, block.Piece{key(1, 'c', 0), 1, "a"}, block.Piece{key(2, 'd', 0), 1, "x"}, block.Piece{key(1, 'c', 1), 1, "b"})
	drop(t, d, key(1, 'c', 0), 2)
	says(t, d, "x", 3, block.Piece{key(2, 'd', 0), 1, "x"})
	stands(t, d, key(1, 'c', 0), 0, false)
	stands(t, d, key(2, 'd', 0), 0, true)
	stands(t, d, key(1, 'c', 1), 1, false)
}

// P13.1: a new document has no elements.
func TestNew(t *testing.T) {
	d := block.New()
	says(t, d, "", 0)
	none(t, d, 0)
	is(t, d, nil, key(1, 'c', 0), api.Key{}, nowhere)
	if e := d.Delete(api.Key{}, 1); e != api.ErrMissing {
		t.Errorf("Delete: %d", e)
	}
	if e := d.Insert(key(2, 'd', 0), api.Key{}, false, "x"); e != api.ErrMissing {
		t.Errorf("Insert: %d", e)
	}
	putFirst(t, block.New(), key(1, 'c', 0), "a")
	says(t, d, "", 0) // each is one of its own
}

// P13.1: where a text comes to stand: behind its parent, and behind what is below its later siblings.
func TestInsert(t *testing.T) {
	d := block.New()
	putFirst(t, d, key(2, 'c', 0), "abc")
	putFirst(t, d, key(3, 'c', 0), "de") // later, so further ahead
	putFirst(t, d, key(1, 'c', 0), "fg") // earlier, so further behind
	says(t, d, "deabcfg", 7, block.Piece{key(3, 'c', 0), 2, "de"}, block.Piece{key(2, 'c', 0), 3, "abc"}, block.Piece{key(1, 'c', 0), 2, "fg"})
	put(t, d, key(9, 'c', 0), key(2, 'c', 2), "k")
	put(t, d, key(9, 'c', 1), key(9, 'c', 0), "l") // below the first child
	put(t, d, key(5, 'c', 0), key(2, 'c', 2), "m") // the second child: behind what is below the first one
	put(t, d, key(7, 'c', 0), key(2, 'c', 2), "n") // between both
	if d.Text() != "deabcklnmfg" {
		t.Errorf("%q", d.Text())
	}
	put(t, d, key(4, 'c', 0), key(2, 'c', 0), "o") // inside a piece
	put(t, d, key(2, 'c', 3), key(2, 'c', 0), "p") // with its parent's time and change: behind the later one, ahead of the earlier ones
	if d.Text() != "deaopbcklnmfg" {
		t.Errorf("%q", d.Text())
	}
}

// P13.1: of one time the change decides, then the Index.
func TestInsertKeys(t *testing.T) {
	keys := []api.Key{ // from the first to the last
		{Time: math.MinInt, Change: api.Id{255}, Index: maxIndex},
		{Time: -1, Change: api.Id{255}},
		{},
		{Index: 1},
		{Index: 3},
		{Index: maxIndex},
		{Change: api.Id{31: 1}},
		{Change: api.Id{31: 2}, Index: 5},
		{Change: api.Id{0: 1}},
		{Change: api.Id{0: 128}},
		{Time: 1},
		{Time: 1 << 40},
		{Time: math.MaxInt, Change: api.Id{255}, Index: maxIndex},
	}
	for i, a := range keys {
		for j, b := range keys {
			d := block.New()
			putFirst(t, d, a, "a")
			want := map[bool]api.Errno{true: api.OK, false: api.ErrTime}[i < j]
			if e := d.Insert(b, a, false, "b"); e != want {
				t.Errorf("%v behind %v: error %d", b, a, e)
			}
			d = block.New()
			putFirst(t, d, a, "a")
			if i == j {
				if e := d.Insert(b, nowhere, true, "b"); e != api.ErrThere {
					t.Errorf("%v twice: error %d", b, e)
				}
				continue
			}
			putFirst(t, d, b, "b")
			if want := map[bool]string{true: "ba", false: "ab"}[i < j]; d.Text() != want {
				t.Errorf("%v, %v: %q", a, b, d.Text())
			}
		}
	}
}

// P13.1: each rune is an element, behind the one ahead of it, with the next Index.
func TestInsertRunes(t *testing.T) {
	s := "\x00aé€\ufffd\U0001d11e\U0010ffff\ufeff\r\n"
	d := block.New()
	putFirst(t, d, key(1, 'c', 5), s)
	says(t, d, s, 10, block.Piece{key(1, 'c', 5), 10, s})
	place := 0
	for _, r := range s {
		stands(t, d, key(1, 'c', 5+place), place, true)
		put(t, d, key(3, 'd', 2*place), key(1, 'c', 5+place), "|")
		drop(t, d, key(3, 'd', 2*place), 1)
		place++
		if p := d.Pieces()[place-1]; p.Text != string(r) {
			t.Errorf("%d: %q", place, p.Text)
		}
	}
	says(t, d, s, 20, d.Pieces()...)
	if len(d.Pieces()) != 10 {
		t.Errorf("%v", d.Pieces())
	}
	for _, k := range []api.Key{key(1, 'c', 4), key(1, 'c', 15), key(1, 'd', 5), key(2, 'c', 5), key(1, 'c', -1), key(1, 'c', 1<<40)} {
		if place, live, e := d.Find(k); place != 0 || live || e != api.ErrMissing {
			t.Errorf("%v: %d, %v, %d", k, place, live, e)
		}
	}
}

// P13.1: the errors, each with all later ones beside it, and none of them a change.
func TestInsertErrors(t *testing.T) {
	d := block.New()
	putFirst(t, d, key(5, 'c', 0), "abc")
	drop(t, d, key(5, 'c', 1), 1)
	there, dead, last := key(5, 'c', 0), key(5, 'c', 1), key(5, 'c', 2)
	for _, c := range []struct {
		key, at api.Key
		first   bool
		s       string
		e       api.Errno
	}{
		{there, nowhere, false, "", api.ErrArg},
		{there, nowhere, false, "\xff", api.ErrArg},
		{there, nowhere, false, "a\xed\xa0\x80", api.ErrArg},
		{there, there, true, "", api.ErrArg},
		{key(6, 'c', 0), there, false, "", api.ErrArg},
		{key(6, 'c', 0), there, true, "ab\xc3", api.ErrArg},
		{key(6, 'c', -1), nowhere, false, "a", api.ErrArg},
		{key(6, 'c', -1), there, false, "ab", api.ErrArg},
		{key(6, 'c', math.MinInt), there, true, "ab", api.ErrArg},
		{key(6, 'c', maxIndex+1), there, false, "a", api.ErrArg},
		{key(6, 'c', maxIndex), there, false, "ab", api.ErrArg},
		{key(6, 'c', maxIndex-1), there, true, "abc", api.ErrArg},
		{key(6, 'c', maxIndex-1), there, true, "é€é", api.ErrArg},
		{key(6, 'c', math.MaxInt), nowhere, true, "ab", api.ErrArg},
		{there, nowhere, false, "a", api.ErrMissing},
		{key(6, 'c', 0), nowhere, false, "a", api.ErrMissing},
		{key(6, 'c', 0), key(5, 'c', 3), false, "a", api.ErrMissing},
		{key(6, 'c', 0), key(5, 'c', -1), false, "a", api.ErrMissing},
		{key(6, 'c', 0), key(5, 'd', 0), false, "a", api.ErrMissing},
		{key(6, 'c', 0), key(4, 'c', 0), false, "a", api.ErrMissing},
		{key(6, 'c', 0), key(6, 'c', 0), false, "a", api.ErrMissing}, // itself is not there yet
		{key(6, 'c', 1), key(6, 'c', 2), false, "abc", api.ErrMissing},
		{there, there, false, "a", api.ErrTime},
		{dead, dead, false, "a", api.ErrTime},
		{there, last, false, "a", api.ErrTime},
		{key(4, 'z', 9), there, false, "a", api.ErrTime},
		{key(5, 'b', 9), dead, false, "a", api.ErrTime},
		{key(5, 'c', 1), last, false, "a", api.ErrTime},
		{last, there, false, "a", api.ErrThere},
		{last, dead, false, "ab", api.ErrThere},
		{dead, there, false, "a", api.ErrThere},
		{there, nowhere, true, "a", api.ErrThere},
		{dead, nowhere, true, "a", api.ErrThere},
		{last, nowhere, true, "abcdef", api.ErrThere},
	} {
		if e := d.Insert(c.key, c.at, c.first, c.s); e != c.e {
			t.Errorf("%v: error %d", c, e)
		}
		says(t, d, "ac", 3, block.Piece{there, 1, "a"}, block.Piece{last, 1, "c"})
		stands(t, d, dead, 1, false)
		for _, k := range []api.Key{key(6, 'c', 0), key(5, 'c', 3), key(6, 'c', maxIndex)} {
			if _, _, e := d.Find(k); e != api.ErrMissing {
				t.Fatalf("%v: found, error %d", k, e)
			}
		}
	}
}

// P13.1: a text of several keys of which one alone is there, live or dead.
func TestInsertThere(t *testing.T) {
	d := block.New()
	putFirst(t, d, key(5, 'c', 10), "abc")
	drop(t, d, key(5, 'c', 12), 1)
	for from := range 20 {
		for n := 1; n < 8; n++ {
			e := d.Copy().Insert(key(5, 'c', from), nowhere, true, strings.Repeat("é", n))
			if want := map[bool]api.Errno{true: api.OK, false: api.ErrThere}[from+n <= 10 || from >= 13]; e != want {
				t.Errorf("%d from %d on: error %d", n, from, e)
			}
		}
	}
}

// P13.1: the least and the greatest Index.
func TestInsertEdges(t *testing.T) {
	d := block.New()
	putFirst(t, d, key(1, 'c', maxIndex-2), "€é𝄞") // so many runes, not bytes
	put(t, d, key(2, 'c', maxIndex), key(1, 'c', maxIndex), "y")
	put(t, d, key(3, 'c', 0), key(2, 'c', maxIndex), "z")
	put(t, d, key(3, 'c', 1), key(3, 'c', 0), "0")
	says(t, d, "€é𝄞yz0", 6, block.Piece{key(1, 'c', maxIndex-2), 3, "€é𝄞"}, block.Piece{key(2, 'c', maxIndex), 1, "y"}, block.Piece{key(3, 'c', 0), 2, "z0"})
	drop(t, d, key(1, 'c', maxIndex), 1)
	stands(t, d, key(1, 'c', maxIndex), 2, false)
	stands(t, d, key(2, 'c', maxIndex), 2, true)
	if e := d.Insert(key(1, 'c', maxIndex+1), key(1, 'c', maxIndex), false, "a"); e != api.ErrArg {
		t.Errorf("error %d", e)
	}
}

// P13.2: which are dead.
func TestDelete(t *testing.T) {
	for from := range 6 {
		for n := 1; from+n <= 6; n++ {
			d := block.New()
			putFirst(t, d, key(1, 'c', 3), "abcdef")
			drop(t, d, key(1, 'c', 3+from), n)
			text := "abcdef"[:from] + "abcdef"[from+n:]
			var want []block.Piece
			if from > 0 {
				want = append(want, block.Piece{key(1, 'c', 3), from, text[:from]})
			}
			if from+n < 6 {
				want = append(want, block.Piece{key(1, 'c', 3+from+n), 6 - from - n, text[from:]})
			}
			says(t, d, text, 6, want...)
			for i := range 6 {
				stands(t, d, key(1, 'c', 3+i), min(i, from)+max(0, i-from-n), i < from || i >= from+n)
			}
			drop(t, d, key(1, 'c', 3+from), n) // they may be dead already
			says(t, d, text, 6, want...)
			drop(t, d, key(1, 'c', 3), 6)
			says(t, d, "", 6)
		}
	}
}

// P13.2: elements of one change that stand in many places, in whichever order.
func TestDeleteApart(t *testing.T) {
	d := block.New()
	putFirst(t, d, key(2, 'c', 4), "ef")
	putFirst(t, d, key(2, 'c', 2), "cd")
	putFirst(t, d, key(2, 'c', 0), "ab")
	put(t, d, key(3, 'd', 0), key(2, 'c', 2), "x")
	if d.Text() != "efcxdab" {
		t.Fatalf("%q", d.Text())
	}
	drop(t, d, key(2, 'c', 1), 4)
	says(t, d, "fxa", 7, block.Piece{key(2, 'c', 5), 1, "f"}, block.Piece{key(3, 'd', 0), 1, "x"}, block.Piece{key(2, 'c', 0), 1, "a"})
	put(t, d, key(4, 'd', 0), key(2, 'c', 1), "y") // behind a dead one
	put(t, d, key(4, 'd', 1), key(2, 'c', 3), "z")
	if d.Text() != "fxzay" {
		t.Errorf("%q", d.Text())
	}
	drop(t, d, key(2, 'c', 0), 6)
	if d.Text() != "xzy" || d.Size() != 9 {
		t.Errorf("%q", d.Text())
	}
}

// P13.2: the errors, and none of them a change.
func TestDeleteErrors(t *testing.T) {
	d := block.New()
	putFirst(t, d, key(1, 'c', 0), "abc")
	putFirst(t, d, key(1, 'c', 4), "ef") // none has Index 3
	putFirst(t, d, key(1, 'd', maxIndex-1), "xy")
	for _, c := range []struct {
		key api.Key
		n   int
		e   api.Errno
	}{
		{key(1, 'c', 0), 0, api.ErrArg},
		{key(1, 'c', 0), -1, api.ErrArg},
		{key(1, 'c', 0), math.MinInt, api.ErrArg},
		{nowhere, 0, api.ErrArg},
		{key(1, 'c', -1), 0, api.ErrArg},
		{nowhere, 1, api.ErrMissing},
		{key(1, 'c', 0), 4, api.ErrMissing},
		{key(1, 'c', 0), 5, api.ErrMissing},
		{key(1, 'c', 0), 6, api.ErrMissing},
		{key(1, 'c', 2), 2, api.ErrMissing},
		{key(1, 'c', 2), 3, api.ErrMissing},
		{key(1, 'c', 3), 1, api.ErrMissing},
		{key(1, 'c', 3), 2, api.ErrMissing},
		{key(1, 'c', 4), 3, api.ErrMissing},
		{key(1, 'c', 6), 1, api.ErrMissing},
		{key(1, 'c', -1), 1, api.ErrMissing},
		{key(1, 'c', -1), 2, api.ErrMissing},
		{key(1, 'c', -1), 4, api.ErrMissing},
		{key(1, 'c', math.MinInt), math.MaxInt, api.ErrMissing},
		{key(1, 'c', math.MaxInt), math.MaxInt, api.ErrMissing},
		{key(1, 'c', 0), math.MaxInt, api.ErrMissing},
		{key(1, 'c', 0), maxIndex + 1, api.ErrMissing},
		{key(1, 'd', maxIndex-1), 3, api.ErrMissing},
		{key(1, 'd', maxIndex), 2, api.ErrMissing},
		{key(1, 'd', maxIndex), math.MaxInt, api.ErrMissing},
		{key(1, 'd', maxIndex+1), 1, api.ErrMissing},
		{key(1, 'e', 0), 1, api.ErrMissing},
		{key(2, 'c', 0), 1, api.ErrMissing},
	} {
		if e := d.Delete(c.key, c.n); e != c.e {
			t.Errorf("%v: error %d", c, e)
		}
		says(t, d, "xyefabc", 7, block.Piece{key(1, 'd', maxIndex-1), 2, "xy"}, block.Piece{key(1, 'c', 4), 2, "ef"}, block.Piece{key(1, 'c', 0), 3, "abc"})
	}
	drop(t, d, key(1, 'd', maxIndex-1), 2)
	says(t, d, "efabc", 7, block.Piece{key(1, 'c', 4), 2, "ef"}, block.Piece{key(1, 'c', 0), 3, "abc"})
}

// P13.3: a dead element's place is how many live ones stand ahead of it.
func TestFind(t *testing.T) {
	d := block.New()
	putFirst(t, d, key(1, 'c', 0), "abcdef")
	put(t, d, key(2, 'd', 0), key(1, 'c', 2), "xyz")
	drop(t, d, key(1, 'c', 1), 3)
	drop(t, d, key(2, 'd', 1), 1)
	if d.Text() != "axzef" {
		t.Fatalf("%q", d.Text())
	}
	stands(t, d, key(1, 'c', 0), 0, true)
	stands(t, d, key(1, 'c', 1), 1, false)
	stands(t, d, key(1, 'c', 2), 1, false)
	stands(t, d, key(2, 'd', 0), 1, true)
	stands(t, d, key(2, 'd', 1), 2, false)
	stands(t, d, key(2, 'd', 2), 2, true)
	stands(t, d, key(1, 'c', 3), 3, false)
	stands(t, d, key(1, 'c', 4), 3, true)
	stands(t, d, key(1, 'c', 5), 4, true)
	none(t, d, 5)
}

// P13.4: pieces are as long as can be, however their elements came.
func TestPieces(t *testing.T) {
	d := block.New()
	putFirst(t, d, key(1, 'c', 0), "a")
	put(t, d, key(1, 'c', 1), key(1, 'c', 0), "b")
	put(t, d, key(1, 'c', 2), key(1, 'c', 1), "cd")
	says(t, d, "abcd", 4, block.Piece{key(1, 'c', 0), 4, "abcd"})
	put(t, d, key(1, 'c', 5), key(1, 'c', 3), "f") // no Index 4
	says(t, d, "abcdf", 5, block.Piece{key(1, 'c', 0), 4, "abcd"}, block.Piece{key(1, 'c', 5), 1, "f"})
	put(t, d, key(1, 'd', 6), key(1, 'c', 5), "g") // another change
	put(t, d, key(2, 'd', 7), key(1, 'd', 6), "h") // another time
	put(t, d, key(2, 'd', 8), key(2, 'd', 7), "i")
	says(t, d, "abcdfghi", 8, block.Piece{key(1, 'c', 0), 4, "abcd"}, block.Piece{key(1, 'c', 5), 1, "f"}, block.Piece{key(1, 'd', 6), 1, "g"}, block.Piece{key(2, 'd', 7), 2, "hi"})

	d = block.New()
	putFirst(t, d, key(1, 'c', 0), "abcd")
	put(t, d, key(2, 'd', 0), key(1, 'c', 1), "x")
	drop(t, d, key(2, 'd', 0), 1) // a dead one stands between
	says(t, d, "abcd", 5, block.Piece{key(1, 'c', 0), 2, "ab"}, block.Piece{key(1, 'c', 2), 2, "cd"})

	d = block.New()
	putFirst(t, d, key(1, 'c', 0), "ab")
	drop(t, d, key(1, 'c', 1), 1)
	put(t, d, key(1, 'c', 2), key(1, 'c', 1), "cd") // behind a dead one with the Index ahead
	says(t, d, "acd", 4, block.Piece{key(1, 'c', 0), 1, "a"}, block.Piece{key(1, 'c', 2), 2, "cd"})

	d = block.New()
	putFirst(t, d, key(1, 'c', 2), "c")
	putFirst(t, d, key(1, 'c', 1), "b") // siblings: the last one first
	putFirst(t, d, key(1, 'c', 0), "a")
	says(t, d, "cba", 3, block.Piece{key(1, 'c', 2), 1, "c"}, block.Piece{key(1, 'c', 1), 1, "b"}, block.Piece{key(1, 'c', 0), 1, "a"})

	d = block.New()
	putFirst(t, d, key(1, 'c', 0), "a")
	put(t, d, key(2, 'd', 0), key(1, 'c', 0), "x")
	put(t, d, key(1, 'c', 1), key(1, 'c', 0), "b") // behind the later sibling
	says(t, d, "axb", 3, block.Piece{key(1, 'c', 0), 1, "a"}, block.Piece{key(2, 'd', 0), 1, "x"}, block.Piece{key(1, 'c', 1), 1, "b"})
}

// P13.4: a copy has the same elements, and what is done to one is not done to the other.
func TestCopy(t *testing.T) {
	for n := 1; n < 40; n++ {
		s := strings.Repeat("é", n)
		d := block.New()
		putFirst(t, d, key(1, 'c', 0), s)
		a, b := d.Copy(), d.Copy()
		put(t, a, key(1, 'c', n), key(1, 'c', n-1), "ab")
		put(t, b, key(1, 'c', n), key(1, 'c', n-1), "xyz")
		put(t, d, key(1, 'c', n), key(1, 'c', n-1), "!")
		says(t, a, s+"ab", n+2, block.Piece{key(1, 'c', 0), n + 2, s + "ab"})
		says(t, b, s+"xyz", n+3, block.Piece{key(1, 'c', 0), n + 3, s + "xyz"})
		says(t, d, s+"!", n+1, block.Piece{key(1, 'c', 0), n + 1, s + "!"})
		drop(t, a, key(1, 'c', 0), n+2)
		says(t, a.Copy(), "", n+2)
		says(t, b, s+"xyz", n+3, block.Piece{key(1, 'c', 0), n + 3, s + "xyz"})
	}
	says(t, block.New().Copy(), "", 0)
	putFirst(t, block.New().Copy(), key(1, 'c', 0), "a")
}

// P13.4: of a nil document.
func TestNil(t *testing.T) {
	var d *block.Doc
	for _, s := range []string{"a", "", "\xff"} {
		for _, first := range []bool{false, true} {
			if e := d.Insert(key(1, 'c', 0), nowhere, first, s); e != api.ErrArg {
				t.Errorf("Insert: %d", e)
			}
		}
	}
	for _, n := range []int{-1, 0, 1} {
		if e := d.Delete(key(1, 'c', 0), n); e != api.ErrArg {
			t.Errorf("Delete: %d", e)
		}
		if k, e := d.At(n); k != (api.Key{}) || e != api.ErrArg {
			t.Errorf("At: %v, %d", k, e)
		}
	}
	if place, live, e := d.Find(key(1, 'c', 0)); place != 0 || live || e != api.ErrArg {
		t.Errorf("Find: %d, %v, %d", place, live, e)
	}
	says(t, d, "", 0)
	if d.Copy() != nil {
		t.Error("Copy")
	}
}

// R4: what is handed out is new memory.
func TestMemory(t *testing.T) {
	d := block.New()
	putFirst(t, d, key(1, 'c', 0), "ab")
	put(t, d, key(2, 'c', 0), key(1, 'c', 0), "x")
	l := d.Pieces()
	clear(append(l, block.Piece{}))
	says(t, d, "axb", 3, block.Piece{key(1, 'c', 0), 1, "a"}, block.Piece{key(2, 'c', 0), 1, "x"}, block.Piece{key(1, 'c', 1), 1, "b"})
}

// R1: many elements, in many pieces, and in one.
func TestMany(t *testing.T) {
	const n = 1 << 16
	begun := time.Now()
	d := block.New()
	s := strings.Repeat("aé€𝄞", n)
	putFirst(t, d, key(1, 'c', 0), s)
	says(t, d, s, 4*n, block.Piece{key(1, 'c', 0), 4 * n, s})
	for i := range n { // each of them parts a piece
		put(t, d, key(2, 'd', 2*i), key(1, 'c', 4*((i*40503)%n)), "x")
	}
	if want := strings.Repeat("axé€𝄞", n); d.Text() != want || d.Size() != 5*n || len(d.Pieces()) != 2*n+1 {
		t.Errorf("%.40q of %d", d.Text(), d.Size())
	}
	for i := range n {
		drop(t, d, key(1, 'c', 4*i+1), 3)
	}
	if want := strings.Repeat("ax", n); d.Text() != want || d.Size() != 5*n {
		t.Errorf("%.40q of %d", d.Text(), d.Size())
	}
	drop(t, d, key(1, 'c', 0), 4*n)
	if want := strings.Repeat("x", n); d.Text() != want || d.Copy().Text() != want {
		t.Errorf("%.40q", d.Text())
	}

	d = block.New()
	putFirst(t, d, key(1, 'c', 0), "a")
	for i := range n - 1 { // one behind the other
		put(t, d, key(1, 'c', i+1), key(1, 'c', i), "a")
	}
	says(t, d, strings.Repeat("a", n), n, block.Piece{key(1, 'c', 0), n, strings.Repeat("a", n)})
	for _, i := range rand.New(rand.NewSource(5)).Perm(n) {
		drop(t, d, key(1, 'c', i), 1)
	}
	says(t, d, "", n)

	d = block.New()
	for i := range n { // all at the beginning
		putFirst(t, d, key(i, 'c', 0), "b")
	}
	if d.Text() != strings.Repeat("b", n) {
		t.Errorf("%.40q", d.Text())
	}
	if took := time.Since(begun); took > time.Minute {
		t.Errorf("%v", took)
	}
}
