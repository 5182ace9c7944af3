package state_test

import (
	"math/rand"
	"slices"
	"strings"
	"testing"

	"variorum/api"
	"variorum/object"
	"variorum/register"
	"variorum/state"
	"variorum/tree"
)

// changes is some, by their ids.
type changes map[api.Id]api.Change

// file is what a path shows: its document, the path that this wants, and its live elements.
type file struct {
	doc   api.Ref
	wants string
	at    []api.Ref
	runes []rune
}

// key is that of what a ref of a change names.
func (l changes) key(id api.Id, r api.Ref) api.Key {
	if r.Change != (api.Id{}) {
		id = r.Change
	}
	return api.Key{Time: l[id].Time, Change: id, Index: r.Index}
}

// made is what changes make, put down as the chapter tells it.
type made struct {
	claims  []register.Claim
	nodes   map[api.Key][]tree.Node // by documents
	parents map[api.Key]api.Key     // of elements that were not inserted first
	dead    map[api.Key]bool
}

func (l changes) make() made {
	m := made{nil, map[api.Key][]tree.Node{}, map[api.Key]api.Key{}, map[api.Key]bool{}}
	for id, c := range l {
		index := 0
		for place, op := range c.Ops {
			doc, at := l.key(id, op.Doc), l.key(id, op.At)
			next := func() api.Key { index++; return l.key(id, api.Ref{Index: index - 1}) }
			claim := register.Claim{Key: l.key(id, api.Ref{Index: place}), Doc: doc, Kind: op.Kind, Path: op.Path}
			switch op.Kind {
			case api.OCreate:
				claim.Doc = next()
				m.claims = append(m.claims, claim)
			case api.ORename, api.ORemove:
				m.claims = append(m.claims, claim)
			case api.ODelete:
				for range op.Count {
					m.dead[at] = true
					at.Index++
				}
			case api.OInsert:
				for n, r := range []rune(op.Text) {
					key := next()
					if n > 0 || op.At != op.Doc {
						m.parents[key] = at
					}
					at = key
					m.nodes[doc] = append(m.nodes[doc], tree.Node{Key: key, Parent: -1, Rune: r})
				}
			}
		}
	}
	return m
}

// files is what changes come to, by paths.
func (l changes) files() map[string]file {
	m := l.make()
	files := map[string]file{}
	for _, named := range register.Paths(m.claims) {
		last, _ := register.Last(m.claims, named.Doc)
		f := file{doc: api.Ref{Change: named.Doc.Change, Index: named.Doc.Index}, wants: last.Path}
		nodes := m.nodes[named.Doc]
		places := map[api.Key]int{}
		for i, node := range nodes {
			places[node.Key] = i
		}
		for i, node := range nodes {
			if parent, ok := m.parents[node.Key]; ok {
				nodes[i].Parent = places[parent]
			}
		}
		for _, place := range tree.Order(nodes) {
			if key := nodes[place].Key; !m.dead[key] {
				f.at = append(f.at, api.Ref{Change: key.Change, Index: key.Index})
				f.runes = append(f.runes, nodes[place].Rune)
			}
		}
		files[named.Path] = f
	}
	return files
}

// runs is who wrote a file.
func (l changes) runs(f file) []api.Run {
	var runs []api.Run
	for i, at := range f.at {
		if i == 0 || f.at[i-1].Change != at.Change {
			runs = append(runs, api.Run{Change: at.Change, Author: l[at.Change].Author})
		}
		runs[len(runs)-1].Text += string(f.runes[i])
	}
	return runs
}

// is fails, unless a state has these changes, and comes to what these come to.
func is(t *testing.T, s *state.State, l changes) {
	t.Helper()
	time := 0
	var ids []api.Id
	for id, c := range l {
		time = max(time, c.Time)
		ids = append(ids, id)
		if got, e := s.Change(id); !same(got, c) || e != api.OK || !s.Has(id) {
			t.Fatalf("%x: %v, error %d; want %v", id, got, e, c)
		}
		id[31]++
		if got, e := s.Change(id); !same(got, api.Change{}) || e != api.ErrMissing || s.Has(id) {
			t.Fatalf("%x: %v, error %d", id, got, e)
		}
	}
	slices.SortFunc(ids, func(a, b api.Id) int { return strings.Compare(string(a[:]), string(b[:])) })
	if got := s.Ids(); !slices.Equal(got, ids) || s.Time() != time {
		t.Fatalf("%x, time %d; want %x, %d", got, s.Time(), ids, time)
	}
	var want []api.File
	for path, f := range l.files() {
		want = append(want, api.File{Path: path, Bytes: string(f.runes)})
		shows(t, s, l, path, f)
	}
	slices.SortFunc(want, func(a, b api.File) int { return strings.Compare(a.Path, b.Path) })
	if got := s.Files(); !slices.Equal(got, want) {
		t.Fatalf("%q; want %q", got, want)
	}
	for _, path := range []string{"", "none", "a~99", "\xff", "a/"} {
		fails(t, s, path, api.ErrNone)
	}
}

// shows fails, unless a path shows that file.
func shows(t *testing.T, s *state.State, l changes, path string, f file) {
	t.Helper()
	if doc, e := s.Doc(path); doc != f.doc || e != api.OK {
		t.Fatalf("%q: document %v, error %d; want %v", path, doc, e, f.doc)
	}
	if wants, e := s.Wants(path); wants != f.wants || e != api.OK {
		t.Fatalf("%q: wants %q, error %d; want %q", path, wants, e, f.wants)
	}
	if text, e := s.Text(path); text != string(f.runes) || e != api.OK {
		t.Fatalf("%q: %q, error %d; want %q", path, text, e, string(f.runes))
	}
	if runs, e := s.Blame(path); !slices.Equal(runs, l.runs(f)) || e != api.OK {
		t.Fatalf("%q: %v, error %d; want %v", path, runs, e, l.runs(f))
	}
	for place, want := range f.at {
		if at, e := s.At(path, place); at != want || e != api.OK {
			t.Fatalf("%q at %d: %v, error %d; want %v", path, place, at, e, want)
		}
	}
	for _, place := range []int{-1 << 63, -1, len(f.at), len(f.at) + 1, 1<<63 - 1} {
		if at, e := s.At(path, place); at != (api.Ref{}) || e != api.ErrNone {
			t.Fatalf("%q at %d: %v, error %d", path, place, at, e)
		}
	}
}

// fails fails, unless all that is asked of a path has an error.
func fails(t *testing.T, s *state.State, path string, want api.Errno) {
	t.Helper()
	doc, e := s.Doc(path)
	wants, f := s.Wants(path)
	text, g := s.Text(path)
	at, h := s.At(path, 0)
	runs, i := s.Blame(path)
	if doc != (api.Ref{}) || wants != "" || text != "" || at != (api.Ref{}) || len(runs) > 0 {
		t.Errorf("%q: %v, %q, %q, %v, %v", path, doc, wants, text, at, runs)
	}
	for _, e := range []api.Errno{e, f, g, h, i} {
		if e != want {
			t.Errorf("%q: error %d; want %d", path, e, want)
		}
	}
}

// same: are two changes one, empty lists being the same as none?
func same(a, b api.Change) bool {
	return a.Time == b.Time && a.Author == b.Author && slices.Equal(a.Deps, b.Deps) && slices.Equal(a.Ops, b.Ops)
}

// maker makes random changes that fit those that they hang on.
type maker struct {
	*rand.Rand
	all  changes
	made []api.Id // in order
}

// view is what an author may know: some changes, with all that they hang on.
func (m *maker) view() changes {
	view := changes{}
	var see func(id api.Id)
	see = func(id api.Id) {
		view[id] = m.all[id]
		for _, dep := range m.all[id].Deps {
			see(dep)
		}
	}
	for range m.Intn(4) {
		if len(m.made) > 0 {
			see(m.made[m.Intn(len(m.made))])
		}
	}
	return view
}

// sight is a document, and all its elements.
type sight struct {
	doc      api.Ref
	elements []api.Ref
}

// sights is what there is in a view.
func (l changes) sights() []sight {
	m := l.make()
	met := map[api.Key]bool{}
	var sights []sight
	for _, claim := range m.claims {
		if met[claim.Doc] {
			continue
		}
		met[claim.Doc] = true
		s := sight{doc: api.Ref{Change: claim.Doc.Change, Index: claim.Doc.Index}}
		for _, node := range m.nodes[claim.Doc] {
			s.elements = append(s.elements, api.Ref{Change: node.Key.Change, Index: node.Key.Index})
		}
		slices.SortFunc(s.elements, byRef)
		sights = append(sights, s)
	}
	slices.SortFunc(sights, func(a, b sight) int { return byRef(a.doc, b.doc) })
	return sights
}

func byRef(a, b api.Ref) int {
	if c := strings.Compare(string(a.Change[:]), string(b.Change[:])); c != 0 {
		return c
	}
	return a.Index - b.Index
}

func (m *maker) path() string {
	return []string{"a", "a/b", "a/b/c", "b", "é", "a~1", "z/y"}[m.Intn(7)]
}

func (m *maker) text() string {
	var s strings.Builder
	for range 1 + m.Intn(4) {
		s.WriteRune([]rune{'a', 'b', '\n', 'é', '€', 0x1d11e}[m.Intn(6)])
	}
	return s.String()
}

// change makes one more, and tells its id.
func (m *maker) change() api.Id {
	view := m.view()
	sights := view.sights()
	c := api.Change{Time: 1 + m.Intn(2), Author: []string{"Ann", "Bob", "Eve"}[m.Intn(3)]}
	index := 0
	own := func(n int) (l []api.Ref) {
		for range n {
			l = append(l, api.Ref{Index: index})
			index++
		}
		return l
	}
	for range 1 + m.Intn(5) {
		if len(sights) == 0 || m.Intn(6) == 0 {
			c.Ops = append(c.Ops, api.Op{Kind: api.OCreate, Path: m.path()})
			sights = append(sights, sight{doc: own(1)[0]})
			continue
		}
		s := &sights[m.Intn(len(sights))]
		op := m.op(*s)
		s.elements = append(s.elements, own(object.Size(api.Change{Ops: []api.Op{op}}))...)
		c.Ops = append(c.Ops, op)
	}
	for _, op := range c.Ops {
		c.Deps = append(c.Deps, op.Doc.Change, op.At.Change)
	}
	if len(m.made) > 0 && m.Intn(3) == 0 {
		c.Deps = append(c.Deps, m.made[m.Intn(len(m.made))]) // one to which there is no ref
	}
	slices.SortFunc(c.Deps, func(a, b api.Id) int { return strings.Compare(string(a[:]), string(b[:])) })
	c.Deps = slices.DeleteFunc(slices.Compact(c.Deps), func(id api.Id) bool { return id == api.Id{} })
	for _, dep := range c.Deps {
		c.Time = max(c.Time, m.all[dep].Time+1+m.Intn(2))
	}
	id, e := object.Id(api.Object{Kind: api.KChange, Change: c})
	if e != api.OK {
		panic(e)
	}
	if _, met := m.all[id]; !met {
		m.all[id] = c
		m.made = append(m.made, id)
	}
	return id
}

// op is one in a document.
func (m *maker) op(s sight) api.Op {
	kind := []uint8{api.OInsert, api.OInsert, api.OInsert, api.ODelete, api.ODelete, api.ORename, api.ORemove}[m.Intn(7)]
	op := api.Op{Kind: kind, Doc: s.doc}
	switch {
	case kind == api.ORename:
		op.Path = m.path()
	case kind == api.ORemove:
	case kind == api.ODelete && len(s.elements) > 0:
		from := m.Intn(len(s.elements))
		op.At, op.Count = s.elements[from], 1
		next := op.At
		for _, at := range s.elements[from+1:] {
			next.Index++
			if at != next || m.Intn(4) == 0 {
				break
			}
			op.Count++
		}
	default:
		op.Kind, op.Text, op.At = api.OInsert, m.text(), s.doc
		if len(s.elements) > 0 && m.Intn(5) > 0 {
			op.At = s.elements[m.Intn(len(s.elements))]
		}
	}
	return op
}

// add adds changes in some order, each behind those on which it hangs; ahead of them it is missing them.
func (m *maker) add(t *testing.T, s *state.State, ids []api.Id) {
	t.Helper()
	left := slices.Clone(ids)
	for len(left) > 0 {
		m.Shuffle(len(left), func(i, k int) { left[i], left[k] = left[k], left[i] })
		var later []api.Id
		for _, id := range left {
			want := api.OK
			for _, dep := range m.all[id].Deps {
				if !s.Has(dep) {
					want = api.ErrMissing
				}
			}
			if e := s.Add(id, m.all[id]); e != want {
				t.Fatalf("%v: error %d; want %d", m.all[id], e, want)
			}
			if want != api.OK {
				later = append(later, id)
			}
		}
		left = later
	}
}

// P15.1 to P15.4: random changes, told whole, added in any order.
func TestPlain(t *testing.T) {
	r := rand.New(rand.NewSource(1))
	for range 250 {
		m := &maker{r, changes{}, nil}
		s := state.New()
		seen := changes{}
		for range 25 {
			id := m.change()
			if e := s.Add(id, m.all[id]); e != api.OK && (e != api.ErrThere || len(seen[id].Ops) == 0) {
				t.Fatalf("%v: error %d", m.all[id], e)
			}
			seen[id] = m.all[id]
			is(t, s, seen)
		}
		for range 3 {
			other := state.New()
			m.add(t, other, m.made)
			is(t, other, m.all)
		}
	}
}

// P15.2, P15.4, P3, P4: parts of the changes; a copy to which the others are added; what two states both show stands in the same order.
func TestPlainParts(t *testing.T) {
	r := rand.New(rand.NewSource(2))
	for range 250 {
		m := &maker{r, changes{}, nil}
		for range 20 {
			m.change()
		}
		part, whole := m.view(), m.all
		ids := func(l changes) (ids []api.Id) {
			for _, id := range m.made {
				if _, ok := l[id]; ok {
					ids = append(ids, id)
				}
			}
			return ids
		}
		s := state.New()
		m.add(t, s, ids(part))
		is(t, s, part)
		other := s.Copy()
		is(t, other, part)
		var rest []api.Id
		for _, id := range m.made {
			if !other.Has(id) {
				rest = append(rest, id)
			}
		}
		m.add(t, other, rest)
		is(t, other, whole)
		is(t, s, part)
		inOrder(t, part, whole)
	}
}

// inOrder fails, unless what both changes show stands in the same order.
func inOrder(t *testing.T, a, b changes) {
	t.Helper()
	shown := map[api.Ref][]api.Ref{}
	for _, f := range b.files() {
		shown[f.doc] = f.at
	}
	for _, f := range a.files() {
		last := -1
		for _, at := range f.at {
			if place := slices.Index(shown[f.doc], at); place >= 0 {
				if place < last {
					t.Fatalf("%v stands ahead", at)
				}
				last = place
			}
		}
	}
}
