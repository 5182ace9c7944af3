package weave_test

import (
	"cmp"
	"math/rand"
	"slices"
	"strings"
	"testing"

	"variorum/api"
	"variorum/myers"
	"variorum/path"
	"variorum/scan"
	"variorum/state"
	"variorum/weave"
)

// document is the path of the document of a file, and whether there is one, as the chapter tells it.
func document(s *state.State, moves [][2]string, path string) (string, bool) {
	for _, move := range moves {
		if move[1] == path {
			return move[0], true
		}
	}
	for _, move := range moves {
		if move[0] == path {
			return "", false
		}
	}
	_, e := s.Doc(path)
	return path, e == api.OK
}

// wrong is the error of files and moves, as the chapter tells it.
func wrong(s *state.State, files []api.File, moves [][2]string) api.Errno {
	if e := path.Tree(files); e != api.OK {
		return e
	}
	for i, move := range moves {
		for _, ahead := range moves[:i] {
			if ahead[0] == move[0] || ahead[1] == move[1] {
				return api.ErrThere
			}
		}
		_, e := s.Doc(move[0])
		if e != api.OK || !slices.ContainsFunc(files, func(f api.File) bool { return f.Path == move[1] }) {
			return api.ErrNone
		}
	}
	return api.OK
}

// plain is the operations of an import of files and moves that may be, as the chapter tells them.
func plain(s *state.State, files []api.File, moves [][2]string) (ops []api.Op) {
	var froms []string
	for _, file := range files {
		if from, ok := document(s, moves, file.Path); ok {
			froms = append(froms, from)
		}
	}
	for _, shown := range s.Files() {
		if !slices.Contains(froms, shown.Path) {
			doc, _ := s.Doc(shown.Path)
			ops = append(ops, remove(doc))
		}
	}
	index := 0
	for _, file := range sorted(files) {
		from, ok := document(s, moves, file.Path)
		if !ok {
			doc := own(index)
			ops = append(ops, create(file.Path))
			index++
			if file.Bytes != "" {
				ops = append(ops, insert(doc, doc, file.Bytes))
				index += len([]rune(file.Bytes))
			}
			continue
		}
		doc, _ := s.Doc(from)
		if wants, _ := s.Wants(from); wants != file.Path {
			ops = append(ops, rename(doc, file.Path))
		}
		text, _ := s.Text(from)
		edits, _ := myers.Diff(text, file.Bytes)
		place := 0
		for _, edit := range edits {
			place += edit.Keep
			ahead := doc
			if place > 0 {
				ahead, _ = s.At(from, place-1)
			}
			for i := range edit.Drop {
				at, _ := s.At(from, place)
				row := len(ops) - 1
				if i > 0 && ops[row].At == of(at.Change, at.Index-ops[row].Count) {
					ops[row].Count++
				} else {
					ops = append(ops, drop(doc, at, 1))
				}
				place++
			}
			if edit.Add != "" {
				ops = append(ops, insert(doc, ahead, edit.Add))
				index += len([]rune(edit.Add))
			}
		}
	}
	return ops
}

func sorted(files []api.File) []api.File {
	files = slices.Clone(files)
	slices.SortFunc(files, func(a, b api.File) int { return cmp.Compare(a.Path, b.Path) })
	return files
}

// common is how long the longest common subsequence of two texts is.
func common(a, b []rune) int {
	row := make([]int, len(b)+1)
	for _, x := range a {
		diagonal := 0
		for j, y := range b {
			next := max(row[j], row[j+1])
			if x == y {
				next = diagonal + 1
			}
			diagonal, row[j+1] = row[j+1], next
		}
	}
	return row[len(b)]
}

// least is how many elements must be touched.
func least(s *state.State, files []api.File, moves [][2]string) (n int) {
	for _, file := range files {
		text := ""
		if from, ok := document(s, moves, file.Path); ok {
			text, _ = s.Text(from)
		}
		a, b := []rune(text), []rune(file.Bytes)
		n += len(a) + len(b) - 2*common(a, b)
	}
	return n
}

// chance makes random files and moves.
type chance struct{ *rand.Rand }

func (r chance) path() string {
	return []string{"a", "b", "a/b", "a~1", "é", "z/y/x", "a~1/b"}[r.Intn(7)]
}

// text is a new one, or another one that is spoiled.
func (r chance) text(other string) string {
	l := []rune(other)
	if r.Intn(4) == 0 {
		l = nil
	}
	for range r.Intn(6) {
		from := r.Intn(len(l) + 1)
		end := min(len(l), from+r.Intn(4))
		var new []rune
		for range r.Intn(4) {
			new = append(new, []rune{'a', 'b', '\n', 'é', '€', 0x1d11e}[r.Intn(6)])
		}
		l = slices.Concat(l[:from], new, l[end:])
	}
	return string(l)
}

// files is some, most of them like those of a state.
func (r chance) files(s *state.State) []api.File {
	var files []api.File
	put := func(file api.File) {
		if r.Intn(20) > 0 && slices.ContainsFunc(files, func(f api.File) bool { return path.Clash(f.Path, file.Path) }) {
			return
		}
		files = append(files, file)
	}
	for _, file := range s.Files() {
		if r.Intn(4) == 0 {
			file.Path = r.path()
		}
		if r.Intn(2) == 0 {
			file.Bytes = r.text(file.Bytes)
		}
		if r.Intn(6) > 0 {
			put(file)
		}
	}
	for range r.Intn(3) {
		put(api.File{Path: r.path(), Bytes: r.text("")})
	}
	r.Shuffle(len(files), func(i, k int) { files[i], files[k] = files[k], files[i] })
	return files
}

// moves is some, most of them from documents to files.
func (r chance) moves(s *state.State, files []api.File) [][2]string {
	var moves [][2]string
	documents := s.Files()
	r.Shuffle(len(documents), func(i, k int) { documents[i], documents[k] = documents[k], documents[i] })
	for i, n := 0, r.Intn(4); i < n && i < len(documents) && i < len(files); i++ {
		moves = append(moves, [2]string{documents[i].Path, files[i].Path})
	}
	if r.Intn(8) == 0 {
		moves = append(moves, [2]string{r.path(), r.path()})
	}
	r.Shuffle(len(moves), func(i, k int) { moves[i], moves[k] = moves[k], moves[i] })
	return moves
}

// merge adds to a state what another one has.
func merge(t *testing.T, s, other *state.State) {
	t.Helper()
	var all []api.Change
	for _, id := range other.Ids() {
		if !s.Has(id) {
			c, _ := other.Change(id)
			all = append(all, c)
		}
	}
	slices.SortStableFunc(all, func(a, b api.Change) int { return cmp.Compare(a.Time, b.Time) })
	for _, c := range all {
		add(t, s, c)
	}
}

// P17.1 to P17.3, P18.4: what authors who know of one another now and then import, held against the chapter's words; what is imported comes out.
func TestPlain(t *testing.T) {
	r := chance{rand.New(rand.NewSource(1))}
	refusals := map[api.Errno]int{}
	for range 400 {
		authors := []string{"Ann", "Bob", "Eve"}
		known := []*state.State{state.New(), state.New(), state.New()}
		for range 20 {
			who := r.Intn(3)
			if r.Intn(3) == 0 {
				merge(t, known[who], known[r.Intn(3)])
			}
			s := known[who]
			files := r.files(s)
			moves := r.moves(s, files)
			c, e := weave.Import(s, files, moves, authors[who])
			n, f := weave.Expect(s, files, moves)
			refusals[e]++
			want := api.Change{}
			w := wrong(s, files, moves)
			if f != w {
				t.Fatalf("%q, %q: error %d; want %d", files, moves, f, w)
			}
			if w == api.OK {
				want = by(authors[who], s.Time()+1, plain(s, files, moves)...)
				if least := least(s, files, moves); n != least {
					t.Fatalf("%q, %q: %d; want %d", files, moves, n, least)
				}
				if len(want.Ops) == 0 {
					want, w = api.Change{}, api.ErrClean
				}
			}
			if e != w || !same(c, want) {
				t.Fatalf("%q, %q: %v, error %d; want %v, %d", files, moves, c, e, want, w)
			}
			if e != api.OK {
				continue
			}
			if got := weave.Elements(c); got != n {
				t.Fatalf("%v: %d; want %d", c, got, n)
			}
			add(t, s, c)
			comes(t, s, files)
			if rows, e := scan.Status(s, files); len(rows) > 0 || e != api.OK {
				t.Fatalf("%v, error %d", rows, e)
			}
		}
	}
	for _, e := range []api.Errno{api.OK, api.ErrClean, api.ErrThere, api.ErrNone} {
		if refusals[e] < 50 {
			t.Errorf("error %d: %d times", e, refusals[e])
		}
	}
}

// P17.3, P3: what two have imported, each for themselves, comes to the same files, whichever is added first; and each's own words are there.
func TestPlainApart(t *testing.T) {
	r := chance{rand.New(rand.NewSource(2))}
	for range 300 {
		s := state.New()
		base := files("f", strings.Repeat(r.text("base"), 2))
		c, _ := weave.Import(s, base, nil, "Ann")
		add(t, s, c)
		one, two := s.Copy(), s.Copy()
		for i, known := range []*state.State{one, two} {
			if c, e := weave.Import(known, files("f", r.text(base[0].Bytes)), nil, []string{"Bob", "Eve"}[i]); e == api.OK {
				add(t, known, c)
			}
		}
		both := one.Copy()
		merge(t, both, two)
		merge(t, two, one)
		comes(t, both, two.Files())
		if c, e := weave.Import(both, one.Files(), nil, "Una"); e == api.OK {
			add(t, both, c)
		}
		comes(t, both, one.Files())
	}
}
