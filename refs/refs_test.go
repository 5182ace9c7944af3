package refs_test

import (
	"math/rand"
	"reflect"
	"slices"
	"strings"
	"testing"

	"variorum/api"
	"variorum/refs"
)

// id is the one whose last byte is c.
func id(c byte) api.Id { return api.Id{31: c} }

// named is names in turns with their ids' last bytes.
func named(l ...any) []refs.Named {
	var all []refs.Named
	for i := 0; i < len(l); i += 2 {
		all = append(all, refs.Named{Name: l[i].(string), Id: id(byte(l[i+1].(int)))})
	}
	return all
}

// many is so many names that rise, each at an id.
func many(n int) []refs.Named {
	var all []refs.Named
	for i := range n {
		all = append(all, refs.Named{Name: name(i), Id: id(byte(i + 1))})
	}
	return all
}

// name is one of a row that rises.
func name(i int) string { return "n" + string([]byte{byte('0' + i/10), byte('0' + i%10)}) }

func branch(name string, from, to byte) api.Update {
	return api.Update{Kind: api.RBranch, Name: name, Old: id(from), New: id(to)}
}

func tag(name string, from, to byte) api.Update {
	return api.Update{Kind: api.RTag, Name: name, Old: id(from), New: id(to)}
}

func head(name string, to byte) api.Update {
	return api.Update{Kind: api.RHead, Name: name, New: id(to)}
}

// entries is so many of a log, each with another id.
func entries(n int) []api.Entry {
	var l []api.Entry
	for i := range n {
		l = append(l, api.Entry{Update: branch("a", byte(i), byte(i+1)), Note: "n"})
	}
	return l
}

// same: are refs the same, lists without anything too?
func same(a, b refs.Refs) bool {
	return slices.Equal(a.Branches, b.Branches) && slices.Equal(a.Tags, b.Tags) && a.Head == b.Head && a.At == b.At && slices.Equal(a.Log, b.Log)
}

// some is refs with everything.
func some() refs.Refs {
	return refs.Refs{
		Branches: named("dev", 1, "main", 2),
		Tags:     named("main", 3, "v1", 4),
		Head:     "main",
		Log:      []api.Entry{{Update: branch("gone", 5, 0), Note: "drop"}, {Update: head("", 6), Note: ""}, {Update: tag("v1", 0, 4), Note: "tag"}},
	}
}

// P20.1: what is at the beginning.
func TestBegin(t *testing.T) {
	r := refs.Begin()
	if !same(r, refs.Refs{Head: "main"}) || !refs.Right(r) {
		t.Errorf("%v", r)
	}
}

// with is some refs, changed.
func with(change func(r *refs.Refs)) refs.Refs {
	r := some()
	change(&r)
	return r
}

// wrong is refs that may not be, for one cause each.
func wrong() map[string]refs.Refs {
	long := strings.Repeat("a", 33)
	return map[string]refs.Refs{
		"nothing":                     {},
		"65 branches":                 with(func(r *refs.Refs) { r.Branches = many(65) }),
		"65 tags":                     with(func(r *refs.Refs) { r.Tags = many(65) }),
		"65 entries":                  with(func(r *refs.Refs) { r.Log = entries(65) }),
		"a branch without a name":     with(func(r *refs.Refs) { r.Branches[0].Name = "" }),
		"a branch with no name":       with(func(r *refs.Refs) { r.Branches[0].Name = "a/b" }),
		"a branch with a long name":   with(func(r *refs.Refs) { r.Branches[0].Name = long }),
		"a branch HEAD":               with(func(r *refs.Refs) { r.Branches[0].Name = "HEAD" }),
		"a tag with no name":          with(func(r *refs.Refs) { r.Tags[1].Name = "v 1" }),
		"branches of one name":        with(func(r *refs.Refs) { r.Branches[0].Name = "main" }),
		"branches that fall":          with(func(r *refs.Refs) { r.Branches[0].Name = "man" }),
		"tags of one name":            with(func(r *refs.Refs) { r.Tags[1].Name = "main" }),
		"tags that fall":              with(func(r *refs.Refs) { r.Tags[1].Name = "a" }),
		"a branch at zero":            with(func(r *refs.Refs) { r.Branches[1].Id = api.Id{} }),
		"a tag at zero":               with(func(r *refs.Refs) { r.Tags[0].Id = api.Id{} }),
		"the head on no name":         with(func(r *refs.Refs) { r.Head = "-a" }),
		"the head on a long name":     with(func(r *refs.Refs) { r.Head = long }),
		"the head on a branch and at": with(func(r *refs.Refs) { r.At = id(1) }),
		"the head nowhere":            with(func(r *refs.Refs) { r.Head = "" }),
		"an entry of kind 0":          with(func(r *refs.Refs) { r.Log[0].Kind = 0 }),
		"an entry of kind 4":          with(func(r *refs.Refs) { r.Log[2].Kind = 4 }),
		"an entry of kind 255":        with(func(r *refs.Refs) { r.Log[2].Kind = 255 }),
		"an entry with a long name":   with(func(r *refs.Refs) { r.Log[1].Name = long }),
		"an entry with a long note":   with(func(r *refs.Refs) { r.Log[1].Note = strings.Repeat("a", 257) }),
		"an entry with no note":       with(func(r *refs.Refs) { r.Log[1].Note = "\xff" }),
	}
}

// right is refs that may be, at their edges.
func right() map[string]refs.Refs {
	return map[string]refs.Refs{
		"the beginning":              refs.Begin(),
		"with everything":            some(),
		"as many as can be":          {Branches: many(64), Tags: many(64), Head: name(63), Log: entries(64)},
		"the head on none":           with(func(r *refs.Refs) { r.Head = "none" }),
		"the head at an id":          with(func(r *refs.Refs) { r.Head, r.At = "", id(9) }),
		"names in order of bytes":    with(func(r *refs.Refs) { r.Branches = named("B", 1, "_", 1, "a", 1, "a-", 1, "a.", 1, "a0", 1, "aa", 1) }),
		"a name of 32 bytes":         with(func(r *refs.Refs) { r.Branches[0].Name = strings.Repeat("a", 32) }),
		"an entry without a name":    with(func(r *refs.Refs) { r.Log[0].Name = "" }),
		"an entry with any name":     with(func(r *refs.Refs) { r.Log[0].Name = "\xff/ \x00" + strings.Repeat("x", 28) }),
		"an entry with any ids":      with(func(r *refs.Refs) { r.Log[0].Old, r.Log[0].New, r.Log[1].Old = id(0), id(0), id(7) }),
		"an entry with a great note": with(func(r *refs.Refs) { r.Log[0].Note = strings.Repeat("é", 128) }),
		"lists of length 0":          {Branches: []refs.Named{}, Tags: []refs.Named{}, Head: "a", Log: []api.Entry{}},
	}
}

// P20.1: which refs may be; P20.2 to P20.4: ErrArg of those that may not.
func TestRight(t *testing.T) {
	for what, r := range right() {
		if !refs.Right(r) {
			t.Errorf("%s: may be", what)
		}
	}
	for what, r := range wrong() {
		if refs.Right(r) {
			t.Errorf("%s: may not be", what)
		}
		if got, e := refs.Apply(r, []api.Update{{}}, "n"); e != api.ErrArg || !reflect.DeepEqual(got, refs.Refs{}) {
			t.Errorf("%s: Apply: %v, %d", what, got, e)
		}
		if got, e := refs.Apply(r, nil, ""); e != api.ErrArg || !reflect.DeepEqual(got, refs.Refs{}) {
			t.Errorf("%s: Apply of nothing: %v, %d", what, got, e)
		}
		if got, e := refs.Look(r, "main"); e != api.ErrArg || got != (api.Id{}) {
			t.Errorf("%s: Look: %x, %d", what, got, e)
		}
		if got, e := refs.Encode(r); e != api.ErrArg || got != nil {
			t.Errorf("%s: Encode: %x, %d", what, got, e)
		}
	}
}

// P20.2: the examples, and what an update of each kind does.
func TestApply(t *testing.T) {
	steps := []struct {
		update api.Update
		want   api.Errno
		then   refs.Refs // but for the log
	}{
		{branch("main", 0, 1), api.OK, refs.Refs{Branches: named("main", 1), Head: "main"}},
		{branch("main", 0, 1), api.ErrMoved, refs.Refs{}},
		{branch("main", 1, 0), api.ErrHead, refs.Refs{}},
		{branch("main", 1, 2), api.OK, refs.Refs{Branches: named("main", 2), Head: "main"}},
		{branch("main", 2, 2), api.OK, refs.Refs{Branches: named("main", 2), Head: "main"}},
		{branch("dev", 0, 3), api.OK, refs.Refs{Branches: named("dev", 3, "main", 2), Head: "main"}},
		{branch("zoo", 0, 3), api.OK, refs.Refs{Branches: named("dev", 3, "main", 2, "zoo", 3), Head: "main"}},
		{tag("dev", 0, 4), api.OK, refs.Refs{Branches: named("dev", 3, "main", 2, "zoo", 3), Tags: named("dev", 4), Head: "main"}},
		{tag("dev", 0, 4), api.ErrMoved, refs.Refs{}},
		{tag("dev", 3, 0), api.ErrMoved, refs.Refs{}},
		{branch("zoo", 3, 0), api.OK, refs.Refs{Branches: named("dev", 3, "main", 2), Tags: named("dev", 4), Head: "main"}},
		{head("dev", 0), api.OK, refs.Refs{Branches: named("dev", 3, "main", 2), Tags: named("dev", 4), Head: "dev"}},
		{branch("main", 2, 0), api.OK, refs.Refs{Branches: named("dev", 3), Tags: named("dev", 4), Head: "dev"}},
		{branch("dev", 3, 0), api.ErrHead, refs.Refs{}},
		{branch("dev", 4, 0), api.ErrMoved, refs.Refs{}},
		{tag("dev", 4, 0), api.OK, refs.Refs{Branches: named("dev", 3), Head: "dev"}},
		{head("nowhere", 0), api.OK, refs.Refs{Branches: named("dev", 3), Head: "nowhere"}},
		{branch("none", 0, 0), api.OK, refs.Refs{Branches: named("dev", 3), Head: "nowhere"}},
		{branch("nowhere", 0, 0), api.ErrHead, refs.Refs{}},
		{tag("none", 0, 0), api.OK, refs.Refs{Branches: named("dev", 3), Head: "nowhere"}},
		{head("", 9), api.OK, refs.Refs{Branches: named("dev", 3), At: id(9)}},
		{branch("dev", 3, 0), api.OK, refs.Refs{At: id(9)}},
		{head("main", 0), api.OK, refs.Refs{Head: "main"}},
	}
	r := refs.Begin()
	var log []api.Entry
	var done []api.Update
	for i, s := range steps {
		next, e := refs.Apply(r, []api.Update{s.update}, name(i))
		if e != s.want {
			t.Fatalf("step %d, %v: %d", i, s.update, e)
		}
		if e == api.OK {
			log = append(log, api.Entry{Update: s.update, Note: name(i)})
			s.then.Log = log
			r, done = next, append(done, s.update)
		}
		if !same(next, s.then) || e == api.OK && !refs.Right(next) {
			t.Fatalf("step %d, %v: %v", i, s.update, next)
		}
	}
	all, e := refs.Apply(refs.Begin(), done, "all")
	for i := range log {
		log[i].Note = "all"
	}
	if r.Log = log; e != api.OK || !same(all, r) {
		t.Errorf("all at once: %v, %d", all, e)
	}
}

// P20.2: errors in their order, of the first update that has one; with it nothing is told.
func TestApplyErrors(t *testing.T) {
	fullBranches := with(func(r *refs.Refs) { r.Branches = many(64) })
	fullTags := with(func(r *refs.Refs) { r.Tags = many(64) })
	of := func(kind uint8, name string, from, to byte) api.Update {
		return api.Update{Kind: kind, Name: name, Old: id(from), New: id(to)}
	}
	for _, c := range []struct {
		r    refs.Refs
		l    []api.Update
		note string
		want api.Errno
	}{
		{some(), nil, "\xff", api.ErrArg},
		{some(), nil, strings.Repeat("n", 257), api.ErrArg},
		{some(), []api.Update{branch("a/b", 0, 1)}, "\xff", api.ErrArg},
		{some(), []api.Update{{}}, "", api.ErrArg},
		{some(), []api.Update{of(4, "a", 0, 1)}, "", api.ErrArg},
		{some(), []api.Update{of(255, "", 0, 1)}, "", api.ErrArg},
		{some(), []api.Update{tag("v1", 4, 5)}, "", api.ErrArg},
		{some(), []api.Update{tag("v1", 4, 4)}, "", api.ErrArg},
		{some(), []api.Update{tag("", 4, 5)}, "", api.ErrArg},
		{some(), []api.Update{of(api.RHead, "dev", 1, 0)}, "", api.ErrArg},
		{some(), []api.Update{of(api.RHead, "dev", 0, 1)}, "", api.ErrArg},
		{some(), []api.Update{of(api.RHead, "dev", 1, 1)}, "", api.ErrArg},
		{some(), []api.Update{of(api.RHead, "", 1, 1)}, "", api.ErrArg},
		{some(), []api.Update{of(api.RHead, "", 1, 0)}, "", api.ErrArg},
		{some(), []api.Update{of(api.RHead, "", 0, 0)}, "", api.ErrArg},
		{some(), []api.Update{of(api.RHead, "a b", 0, 1)}, "", api.ErrArg},
		{some(), []api.Update{head("a b", 0)}, "", api.ErrName},
		{some(), []api.Update{head("HEAD", 0)}, "", api.ErrName},
		{some(), []api.Update{branch("", 0, 1)}, "", api.ErrName},
		{some(), []api.Update{branch("a b", 7, 1)}, "", api.ErrName},
		{some(), []api.Update{branch(strings.Repeat("a", 33), 0, 1)}, "", api.ErrName},
		{some(), []api.Update{tag("", 0, 1)}, "", api.ErrName},
		{some(), []api.Update{tag(".", 1, 0)}, "", api.ErrName},
		{some(), []api.Update{branch("main", 1, 0)}, "", api.ErrMoved},
		{some(), []api.Update{branch("main", 0, 0)}, "", api.ErrMoved},
		{some(), []api.Update{branch("new", 1, 2)}, "", api.ErrMoved},
		{some(), []api.Update{branch("new", 1, 0)}, "", api.ErrMoved},
		{some(), []api.Update{branch("v1", 4, 1)}, "", api.ErrMoved},
		{some(), []api.Update{tag("dev", 1, 0)}, "", api.ErrMoved},
		{some(), []api.Update{tag("v1", 0, 0)}, "", api.ErrMoved},
		{some(), []api.Update{tag("v1", 0, 5)}, "", api.ErrMoved},
		{some(), []api.Update{branch("main", 2, 0)}, "", api.ErrHead},
		{fullBranches, []api.Update{branch("new", 0, 1)}, "", api.ErrFull},
		{fullBranches, []api.Update{branch("new", 1, 2)}, "", api.ErrMoved},
		{fullTags, []api.Update{tag("new", 0, 1)}, "", api.ErrFull},
		{some(), []api.Update{branch("dev", 1, 3), branch("dev", 1, 3)}, "", api.ErrMoved},
		{some(), []api.Update{branch("dev", 2, 3), {}}, "", api.ErrMoved},
		{some(), []api.Update{branch("dev", 1, 3), {}, branch("dev", 1, 3)}, "", api.ErrArg},
		{some(), []api.Update{head("dev", 0), branch("main", 2, 0), branch("dev", 1, 0)}, "", api.ErrHead},
	} {
		got, e := refs.Apply(c.r, c.l, c.note)
		if e != c.want || !reflect.DeepEqual(got, refs.Refs{}) {
			t.Errorf("%v: %d, not %d; %v", c.l, e, c.want, got)
		}
	}
}

// P20.2: where there are as many as can be, all but one more may be done.
func TestApplyFull(t *testing.T) {
	r := refs.Refs{Branches: many(64), Tags: many(64), Head: "x"}
	for _, l := range [][]api.Update{
		{branch(name(5), 6, 9)}, {branch("new", 0, 0)}, {tag("new", 0, 0)}, {branch(name(5), 6, 0), branch("new", 0, 1)}, {tag(name(63), 64, 0), tag("a", 0, 1)}, {head("new", 0)},
	} {
		if got, e := refs.Apply(r, l, ""); e != api.OK || !refs.Right(got) {
			t.Errorf("%v: %d", l, e)
		}
	}
	if _, e := refs.Apply(r, []api.Update{branch(name(5), 6, 0), branch("new", 0, 1), branch(name(5), 0, 6)}, ""); e != api.ErrFull {
		t.Error(e)
	}
	r = refs.Begin()
	for i := range 65 {
		next, e := refs.Apply(r, []api.Update{branch(name(i), 0, 1), tag(name(i), 0, 1)}, "")
		if want := i < 64; want != (e == api.OK) || !want && e != api.ErrFull {
			t.Fatalf("%d branches and tags: %d", i+1, e)
		}
		if e == api.OK {
			r = next
		}
	}
}

// P20.2: of the log the last 64 entries are kept, whether they came together or not.
func TestApplyLog(t *testing.T) {
	r, e := refs.Apply(refs.Begin(), nil, strings.Repeat("n", 256))
	if e != api.OK || !same(r, refs.Begin()) {
		t.Errorf("nothing: %v, %d", r, e)
	}
	var l []api.Update
	var want []api.Entry
	for i := range 200 {
		u := branch("dev", byte(i), byte(i+1))
		l, want = append(l, u), append(want, api.Entry{Update: u, Note: "n"})
		r, _ = refs.Apply(r, l[i:], "n")
		kept := want[max(0, i-63):]
		if !slices.Equal(r.Log, kept) {
			t.Fatalf("%d entries: %v", i+1, r.Log)
		}
		together, e := refs.Apply(refs.Begin(), l, "n")
		if e != api.OK || !same(together, r) {
			t.Fatalf("%d together: %d", i+1, e)
		}
	}
	r, _ = refs.Apply(some(), l[:0], "")
	if !same(r, some()) {
		t.Errorf("nothing upon some: %v", r)
	}
	r, _ = refs.Apply(some(), []api.Update{head("a", 0), head("b", 0)}, "x\ny")
	if want := append(some().Log, api.Entry{Update: head("a", 0), Note: "x\ny"}, api.Entry{Update: head("b", 0), Note: "x\ny"}); !slices.Equal(r.Log, want) {
		t.Errorf("the log: %v", r.Log)
	}
}

// plain is refs in maps, to which updates are done as the chapter's words have it.
type plain struct {
	kinds map[uint8]map[string]byte
	head  string
	at    byte
}

func (p *plain) do(u api.Update) api.Errno {
	from, to := u.Old[31], u.New[31]
	switch {
	case u.Kind == api.RHead && (from != 0 || u.Name != "" && to != 0 || u.Name == "" && to == 0),
		u.Kind == api.RTag && from != 0 && to != 0:
		return api.ErrArg
	case u.Name == "a b", u.Name == "" && u.Kind != api.RHead:
		return api.ErrName
	case u.Kind == api.RHead:
		p.head, p.at = u.Name, to
		return api.OK
	case p.kinds[u.Kind][u.Name] != from:
		return api.ErrMoved
	case u.Kind == api.RBranch && to == 0 && p.head == u.Name:
		return api.ErrHead
	case to == 0:
		delete(p.kinds[u.Kind], u.Name)
	default:
		p.kinds[u.Kind][u.Name] = to
	}
	return api.OK
}

// list is names in order.
func (p *plain) list(kind uint8) []refs.Named {
	var l []refs.Named
	for n, c := range p.kinds[kind] {
		l = append(l, refs.Named{Name: n, Id: id(c)})
	}
	slices.SortFunc(l, func(a, b refs.Named) int { return strings.Compare(a.Name, b.Name) })
	return l
}

// P20.2: random updates against the plain words.
func TestApplyPlain(t *testing.T) {
	chance := rand.New(rand.NewSource(20))
	met := map[api.Errno]int{}
	names := []string{"", "a b", "main", "a", "b", "B", "z"}
	for range 60 {
		r := refs.Begin()
		p := &plain{map[uint8]map[string]byte{api.RBranch: {}, api.RTag: {}}, "main", 0}
		var log []api.Entry
		for range 150 {
			u := api.Update{Kind: uint8(1 + chance.Intn(3)), Name: names[chance.Intn(len(names))], Old: id(byte(chance.Intn(3))), New: id(byte(chance.Intn(3)))}
			want := p.do(u)
			met[want]++
			next, e := refs.Apply(r, []api.Update{u}, "n")
			if e != want {
				t.Fatalf("%v upon %v: %d, not %d", u, r, e, want)
			}
			if e != api.OK {
				continue
			}
			log = append(log, api.Entry{Update: u, Note: "n"})
			r = next
			if !same(r, refs.Refs{Branches: p.list(api.RBranch), Tags: p.list(api.RTag), Head: p.head, At: id(p.at), Log: log[max(0, len(log)-64):]}) || !refs.Right(r) {
				t.Fatalf("behind %v: %v", u, r)
			}
			b, e := refs.Encode(r)
			if back, e2 := refs.Decode(b); e != api.OK || e2 != api.OK || !same(back, r) {
				t.Fatalf("as bytes: %v, %d, %d", r, e, e2)
			}
		}
	}
	for _, e := range []api.Errno{api.OK, api.ErrArg, api.ErrName, api.ErrMoved, api.ErrHead} {
		if met[e] == 0 {
			t.Errorf("error %d was never met", e)
		}
	}
}

// P20.3: what names are at.
func TestLook(t *testing.T) {
	digits := strings.Repeat("0", 62)
	at := with(func(r *refs.Refs) { r.Head, r.At = "", id(9) })
	for _, c := range []struct {
		r    refs.Refs
		name string
		want byte
		e    api.Errno
	}{
		{some(), "", 2, api.OK},
		{some(), "main", 2, api.OK}, // the branch, not the tag
		{some(), "dev", 1, api.OK},
		{some(), "v1", 4, api.OK},
		{some(), "v", 0, api.ErrNone},
		{some(), "v10", 0, api.ErrNone},
		{some(), "HEAD", 0, api.ErrNone},
		{some(), "gone", 0, api.ErrNone},
		{some(), "a b\xff", 0, api.ErrNone},
		{some(), digits + "1f", 0x1f, api.OK}, // whether it is in the refs or not
		{some(), digits + "00", 0, api.OK},
		{some(), digits + "1F", 0, api.ErrNone},
		{some(), digits + "1", 0, api.ErrNone},
		{some(), digits + "011", 0, api.ErrNone},
		{at, "", 9, api.OK},
		{at, "main", 2, api.OK},
		{refs.Begin(), "", 0, api.ErrNone},
		{refs.Begin(), "main", 0, api.ErrNone},
		{refs.Refs{Tags: named("main", 3), Head: "main"}, "", 0, api.ErrNone}, // of the head the branch alone
		{refs.Refs{Tags: named("main", 3), Head: "main"}, "main", 3, api.OK},
	} {
		if got, e := refs.Look(c.r, c.name); e != c.e || got != id(c.want) {
			t.Errorf("%q: %x, %d", c.name, got, e)
		}
	}
	full := refs.Refs{Branches: many(64), Head: "x"}
	for i := range 64 {
		if got, e := refs.Look(full, name(i)); e != api.OK || got != id(byte(i+1)) {
			t.Errorf("%s: %x, %d", name(i), got, e)
		}
	}
}

// P20.3: all ids, of refs that may not be, too.
func TestRoots(t *testing.T) {
	for _, c := range []struct {
		r    refs.Refs
		want []byte
	}{
		{refs.Begin(), nil},
		{refs.Refs{}, nil},
		{some(), []byte{1, 2, 3, 4, 5, 6}},
		{refs.Refs{At: id(7)}, []byte{7}},
		{refs.Refs{At: id(7), Head: "a b", Tags: named("", 9, "", 9, "", 0), Branches: named("z", 8, "a", 7)}, []byte{7, 8, 9}},
		{refs.Refs{Log: []api.Entry{{Update: api.Update{Kind: 77, Old: id(2), New: id(1)}, Note: "\xff"}}}, []byte{1, 2}},
		{refs.Refs{Log: append(entries(64), entries(100)...)}, sequence(100)},
	} {
		var want []api.Id
		for _, b := range c.want {
			want = append(want, id(b))
		}
		if got := refs.Roots(c.r); !slices.Equal(got, want) {
			t.Errorf("%v: %x", c.r, got)
		}
	}
	if got := refs.Roots(refs.Refs{Branches: []refs.Named{{Id: api.Id{2}}, {Id: api.Id{1, 9}}}, At: id(3)}); !slices.Equal(got, []api.Id{id(3), {1, 9}, {2}}) {
		t.Errorf("in order of all bytes: %x", got)
	}
}

// sequence is the bytes from 1 to n.
func sequence(n int) []byte {
	var l []byte
	for i := range n {
		l = append(l, byte(i+1))
	}
	return l
}

// bytesOf is bytes of numbers, texts (with their lengths), and ids.
func bytesOf(l ...any) []byte {
	var b []byte
	for _, one := range l {
		switch x := one.(type) {
		case int:
			b = append(b, byte(x))
		case string:
			if len(x) > 127 {
				b = append(b, byte(len(x)%128+128))
				b = append(b, byte(len(x)/128))
			} else {
				b = append(b, byte(len(x)))
			}
			b = append(b, x...)
		case api.Id:
			b = append(b, x[:]...)
		}
	}
	return b
}

// P20.4: the bytes, part by part.
func TestEncode(t *testing.T) {
	note := strings.Repeat("n", 200)
	for _, c := range []struct {
		r    refs.Refs
		want []byte
	}{
		{refs.Begin(), bytesOf(0, 0, "main", id(0), 0)},
		{refs.Refs{At: api.Id{1, 2}}, bytesOf(0, 0, "", api.Id{1, 2}, 0)},
		{some(), bytesOf(
			2, "dev", id(1), "main", id(2),
			2, "main", id(3), "v1", id(4),
			"main", id(0),
			3, 1, "gone", id(5), id(0), "drop", 3, "", id(0), id(6), "", 2, "v1", id(0), id(4), "tag")},
		{refs.Refs{Head: "a", Log: []api.Entry{{Update: head("\xff", 1), Note: note}}}, bytesOf(0, 0, "a", id(0), 1, 3, "\xff", id(0), id(1), note)},
	} {
		got, e := refs.Encode(c.r)
		if e != api.OK || !slices.Equal(got, c.want) {
			t.Errorf("%v: %d, %q; want %q", c.r, e, got, c.want)
		}
	}
}

// P20.4: what is encoded is decoded, and of its bytes neither a part nor more.
func TestDecode(t *testing.T) {
	for what, r := range right() {
		b, e := refs.Encode(r)
		got, e2 := refs.Decode(b)
		if e != api.OK || e2 != api.OK || !same(got, r) {
			t.Errorf("%s: %d, %d: %v", what, e, e2, got)
		}
		for n := range b {
			none(t, b[:n])
		}
		none(t, append(slices.Clone(b), 0))
		none(t, append([]byte{0}, b...))
		none(t, append(slices.Clone(b), b...))
	}
}

// none fails, unless bytes are none of refs.
func none(t *testing.T, b []byte) {
	t.Helper()
	if r, e := refs.Decode(b); e != api.ErrForm || !reflect.DeepEqual(r, refs.Refs{}) {
		t.Fatalf("%q: %d, %v", b, e, r)
	}
}

// P20.4: bytes that are nearly those of refs.
func TestDecodeErrors(t *testing.T) {
	long := strings.Repeat("a", 33)
	great := []byte{255, 255, 255, 255, 255, 255, 255, 255, 127} // 2^63 - 1
	after := bytesOf(0, "main", id(0), 0)
	for _, b := range [][]byte{
		nil,
		{0},
		great,
		append(slices.Clone(great), after...),
		append([]byte{128, 0}, after...), // 0 in more bytes than it needs
		bytesOf(0, 0, "main", id(0), 128, 0),
		append(bytesOf(0, 0, "main", id(0)), great...),
		append(bytesOf(0, 0), great...),
		bytesOf(0, 0, "", id(0), 0),
		bytesOf(0, 0, "main", id(1), 0),
		bytesOf(0, 0, "a b", id(0), 0),
		bytesOf(0, 0, long, id(0), 0),
		bytesOf(1, "main", id(0), 0, "main", id(0), 0),
		bytesOf(1, "", id(1), 0, "main", id(0), 0),
		bytesOf(1, long, id(1), 0, "main", id(0), 0),
		bytesOf(2, "b", id(1), "a", id(1), 0, "main", id(0), 0),
		bytesOf(2, "a", id(1), "a", id(1), 0, "main", id(0), 0),
		bytesOf(0, 2, "a", id(1), "a", id(1), "main", id(0), 0),
		bytesOf(0, 1, "a", id(0), "main", id(0), 0),
		bytesOf(0, 0, "main", id(0), 1, 0, "a", id(0), id(0), ""),
		bytesOf(0, 0, "main", id(0), 1, 4, "a", id(0), id(0), ""),
		bytesOf(0, 0, "main", id(0), 1, 1, long, id(0), id(0), ""),
		bytesOf(0, 0, "main", id(0), 1, 1, "a", id(0), id(0), "\xff"),
		bytesOf(0, 0, "main", id(0), 1, 1, "a", id(0), id(0), strings.Repeat("n", 257)),
	} {
		none(t, b)
	}
	for _, n := range []int{65, 100} { // more than there may be, though they rise
		r := refs.Refs{Branches: many(64), Tags: many(64), Head: "main", Log: entries(64)}
		row := func(l []refs.Named) []byte {
			b := []byte{byte(len(l))}
			for _, one := range l {
				b = append(b, bytesOf(one.Name, one.Id)...)
			}
			return b
		}
		log := []byte{byte(n)}
		for _, entry := range entries(n) {
			log = append(log, bytesOf(int(entry.Kind), entry.Name, entry.Old, entry.New, entry.Note)...)
		}
		right, _ := refs.Encode(r)
		from := len(row(r.Branches)) + len(row(r.Tags)) + len(bytesOf("main", id(0)))
		none(t, slices.Concat(row(many(n)), right[len(row(r.Branches)):]))
		none(t, slices.Concat(row(r.Branches), row(many(n)), bytesOf("main", id(0), 0)))
		none(t, slices.Concat(right[:from], log))
	}
}

// P20.4: of any bytes either nothing is read, or what has just these bytes.
func TestDecodeAny(t *testing.T) {
	chance := rand.New(rand.NewSource(4))
	read := 0
	all := right()
	for _, what := range []string{"with everything", "the beginning", "the head at an id", "as many as can be"} {
		b, _ := refs.Encode(all[what])
		for range 4000 {
			other := slices.Clone(b)
			for range 1 + chance.Intn(2) {
				i := chance.Intn(len(other))
				switch chance.Intn(3) {
				case 0:
					other[i] = byte(chance.Intn(256))
				case 1:
					other[i] += byte(1 - 2*chance.Intn(2))
				default:
					other = slices.Delete(other, i, min(len(other), i+1+chance.Intn(40)))
				}
				if len(other) == 0 {
					break
				}
			}
			r, e := refs.Decode(other)
			if e == api.ErrForm && reflect.DeepEqual(r, refs.Refs{}) {
				continue
			}
			read++
			if back, e2 := refs.Encode(r); e != api.OK || e2 != api.OK || !slices.Equal(back, other) {
				t.Fatalf("%q: %d, %v", other, e, r)
			}
		}
	}
	if read == 0 {
		t.Error("nothing was read")
	}
}

// roomy is a list with spare room behind it that is full of one thing.
func roomy[T any](l []T, spare T) []T {
	more := slices.Clone(l)
	for range 9 {
		more = append(more, spare)
	}
	return more[:len(l)]
}

// R4: what is handed in is neither changed nor kept, what is handed out is new.
func TestMemory(t *testing.T) {
	r := some()
	r.Branches = roomy(r.Branches, refs.Named{Name: "spare"})
	r.Tags = roomy(r.Tags, refs.Named{Name: "spare"})
	r.Log = roomy(r.Log, api.Entry{Note: "spare"})
	spares := func(r refs.Refs) bool {
		return r.Branches[:3][2].Name == "spare" && r.Tags[:3][2].Name == "spare" && r.Log[:4][3].Note == "spare"
	}
	updates := []api.Update{branch("dev", 1, 7), branch("a", 0, 1), tag("main", 3, 0), tag("a", 0, 1), tag("b", 0, 1), head("b", 0), branch("main", 2, 0)}
	for n := range len(updates) + 1 {
		given := slices.Clone(updates[:n])
		got, e := refs.Apply(r, given, "n")
		if e != api.OK || !same(r, some()) || !spares(r) || !slices.Equal(given, updates[:n]) {
			t.Fatalf("%d updates: %d; what was handed in is %v", n, e, r)
		}
		refs.Roots(r)
		b, _ := refs.Encode(got)
		before := slices.Clone(b)
		back, _ := refs.Decode(b)
		clear(b)
		clear(given)
		if again, _ := refs.Encode(back); !slices.Equal(again, before) {
			t.Fatalf("%d updates: what was decoded has changed", n)
		}
		for _, l := range [][]refs.Named{got.Branches, got.Tags, back.Branches, back.Tags} {
			clear(l[:cap(l)])
		}
		clear(got.Log[:cap(got.Log)])
		clear(back.Log[:cap(back.Log)])
		if !same(r, some()) || !spares(r) {
			t.Fatalf("%d updates: what was handed out is shared: %v", n, r)
		}
	}
	full := refs.Refs{Head: "a", Log: entries(64)}
	refs.Apply(full, []api.Update{head("b", 0), head("c", 0)}, "")
	if !slices.Equal(full.Log, entries(64)) {
		t.Error("a full log has changed")
	}
	b, _ := refs.Encode(refs.Begin())
	kept := slices.Clone(b)
	refs.Decode(b)
	if !slices.Equal(b, kept) {
		t.Error("the bytes have changed")
	}
}
