package scan_test

import (
	"cmp"
	"math"
	"math/rand"
	"slices"
	"testing"

	"variorum/api"
	"variorum/scan"
	"variorum/state"
	"variorum/weave"
)

// common is how long the longest common subsequence of two texts is: so many runes the edits between them keep.
func common(a, b string) int {
	other := []rune(b)
	row := make([]int, len(other)+1)
	for _, x := range a {
		diagonal := 0
		for j, y := range other {
			next := max(row[j], row[j+1])
			if x == y {
				next = diagonal + 1
			}
			diagonal, row[j+1] = row[j+1], next
		}
	}
	return row[len(other)]
}

func length(s string) int { return len([]rune(s)) }

func cost(a, b string) int { return length(a) + length(b) - 2*common(a, b) }

// like is how like two texts are.
func like(a, b string) float64 {
	return float64(2*common(a, b)) / float64(length(a)+length(b))
}

// sorted is files in order of paths.
func sorted(files []api.File) []api.File {
	files = slices.Clone(files)
	slices.SortFunc(files, func(a, b api.File) int { return cmp.Compare(a.Path, b.Path) })
	return files
}

func has(files []api.File, path string) bool {
	return slices.ContainsFunc(files, func(f api.File) bool { return f.Path == path })
}

// plain is the rows, as the chapter tells them.
func plain(documents, files []api.File) (rows []scan.Row) {
	var gone, added []api.File
	for _, d := range sorted(documents) {
		if !has(files, d.Path) {
			gone = append(gone, d)
		}
	}
	for _, f := range sorted(files) {
		if !has(documents, f.Path) {
			added = append(added, f)
		}
		for _, d := range documents {
			if d.Path == f.Path && d.Bytes != f.Bytes {
				rows = append(rows, row(scan.SEdit, f.Path, "", cost(d.Bytes, f.Bytes)))
			}
		}
	}
	for {
		best, from, to := math.Inf(-1), 0, 0
		for i, d := range gone {
			for k, f := range added {
				if l := like(d.Bytes, f.Bytes); l >= 0.5 && l > best {
					best, from, to = l, i, k
				}
			}
		}
		if best < 0 {
			break
		}
		d, f := gone[from], added[to]
		rows = append(rows, row(scan.SMove, f.Path, d.Path, cost(d.Bytes, f.Bytes)))
		gone, added = slices.Delete(gone, from, from+1), slices.Delete(added, to, to+1)
	}
	for _, d := range gone {
		rows = append(rows, row(scan.SGone, d.Path, "", length(d.Bytes)))
	}
	for _, f := range added {
		rows = append(rows, row(scan.SAdd, f.Path, "", length(f.Bytes)))
	}
	slices.SortFunc(rows, func(a, b scan.Row) int {
		return cmp.Or(cmp.Compare(a.Path, b.Path), cmp.Compare(a.Kind, b.Kind))
	})
	return rows
}

// tree is random files, not all of them unlike those of another one.
func tree(r *rand.Rand, other []api.File) []api.File {
	var files []api.File
	for _, path := range []string{"a", "b", "c", "d", "e/f", "e/g", "h", "é"} {
		if r.Intn(2) == 0 {
			continue
		}
		var l []rune
		if len(other) > 0 && r.Intn(3) > 0 {
			l = []rune(other[r.Intn(len(other))].Bytes)
		}
		for range r.Intn(4) {
			at := r.Intn(len(l) + 1)
			l = slices.Insert(l, at, []rune{'a', 'b', 'é', '€'}[r.Intn(4)])
			if r.Intn(2) == 0 {
				l = slices.Delete(l, at/2, at/2+1)
			}
		}
		files = append(files, api.File{Path: path, Bytes: string(l)})
	}
	r.Shuffle(len(files), func(i, k int) { files[i], files[k] = files[k], files[i] })
	return files
}

// P18.1, P18.2, P18.3, P18.4: random files, held against the chapter's words; and behind the change of the moves that are guessed there is no row.
func TestPlain(t *testing.T) {
	r := rand.New(rand.NewSource(1))
	kinds := map[uint8]int{}
	for range 1500 {
		s := state.New()
		for range 4 {
			documents := s.Files()
			files := tree(r, documents)
			want := plain(documents, files)
			rows, e := scan.Status(s, files)
			if e != api.OK || !slices.Equal(rows, want) {
				t.Fatalf("%q, %q: %v, error %d; want %v", documents, files, rows, e, want)
			}
			for _, row := range rows {
				kinds[row.Kind]++
			}
			for _, d := range documents {
				for _, f := range files {
					a, b := scan.Like(d.Bytes, f.Bytes), like(d.Bytes, f.Bytes)
					if a != b && !(math.IsNaN(a) && math.IsNaN(b)) {
						t.Fatalf("%q, %q: %v; want %v", d.Bytes, f.Bytes, a, b)
					}
				}
			}
			settled(t, s, files, scan.Moves(rows))
		}
	}
	for kind := scan.SAdd; kind <= scan.SMove; kind++ {
		if kinds[kind] < 500 {
			t.Errorf("kind %d: %d rows", kind, kinds[kind])
		}
	}
}

// settled fails, unless the change of files and moves leaves no row. It brings the state there.
func settled(t *testing.T, s *state.State, files []api.File, moves [][2]string) {
	t.Helper()
	c, e := weave.Import(s, files, moves, "Ann")
	if e == api.OK {
		put(t, s, c)
	}
	if rows, f := scan.Status(s, files); e != api.OK && e != api.ErrClean || f != api.OK || len(rows) > 0 {
		t.Fatalf("%q, %q: errors %d, %d: %v", files, moves, e, f, rows)
	}
}
