package repo_test

import (
	"slices"
	"testing"

	"variorum/api"
	"variorum/disk"
	"variorum/journal"
	"variorum/object"
	"variorum/order"
	"variorum/pack"
	"variorum/repo"
	"variorum/vault"
)

// gap is a repository in which a commit is known, but not whole: what its change hangs on is brought by a later one alone.
func gap(t *testing.T) (r *repo.Repo, part, whole api.Id, changes []api.Id) {
	t.Helper()
	r, _ = begun(t)
	changes = taken(t, r, creation(1, "one"))
	changes = append(changes, taken(t, r, creation(2, "two", changes[0]))...)
	part = taken(t, r, joint(1, nil, changes[1:]))[0]
	whole = taken(t, r, joint(2, ids(part), changes[:1]))[0]
	moved(t, r, api.Update{Kind: api.RBranch, Name: "dev", New: whole})
	return r, part, whole, changes
}

// P24.1: where a commit that is to be told is known, but not whole.
func TestNotWhole(t *testing.T) {
	r, part, whole, changes := gap(t)
	first := commit(t, r, 1, "a", "x")
	comes(t, r, "dev", "one", "", "two", "")
	if !r.Known(part) || !r.Known(whole) {
		t.Error("not known")
	}
	for _, kind := range []uint8{api.CCheckout, api.CSwitch, api.CLog, api.CBlame, api.CDiff} {
		refused(t, r, named(kind, digits(part), "dev"), api.ErrForm)
	}
	for _, kind := range []uint8{api.CBranch, api.CTag} {
		refused(t, r, named(kind, "new", digits(part)), api.ErrForm)
	}
	refused(t, r, named(api.CDiff, "dev", digits(part)), api.ErrForm)
	refused(t, r, named(api.CDiff, digits(part), "nope"), api.ErrNone)
	refused(t, r, signed(api.CMerge, digits(part), 2), api.ErrForm)
	answers(t, r, named(api.CLog, "dev"), api.Answer{Id: whole, Lines: []string{digits(whole) + " 2 Bob m", digits(part) + " 1 Bob m"}})
	for want, l := range map[api.Errno][]api.Id{api.ErrForm: ids(whole, part), api.ErrMissing: ids(part, api.Id{1})} {
		if set, e := r.Reach(l); e != want || len(set) != 0 {
			t.Errorf("%x, %d", set, e)
		}
		if b, e := r.Bundle(l, nil, nil); e != want || len(b) != 0 {
			t.Errorf("%x, %d", b, e)
		}
		if b, e := r.Bundle(ids(first), l, nil); e != api.ErrForm || len(b) != 0 { // one that is not known does not count
			t.Errorf("%x, %d", b, e)
		}
	}
	if b, e := r.Bundle(ids(whole), ids(first), nil); e != api.OK || len(b) == 0 {
		t.Errorf("%d", e)
	}
	if set, e := r.Past(part); e != api.ErrForm || len(set) != 0 {
		t.Errorf("%x, %d", set, e)
	}
	if e := r.Move([]api.Update{{Kind: api.RTag, Name: "v", New: whole}, {Kind: api.RTag, Name: "w", New: part}}, ""); e != api.ErrForm {
		t.Errorf("%d", e)
	}
	do(t, r, api.CGc)
	comes(t, r, "dev", "one", "", "two", "")
	refused(t, r, named(api.CCheckout, digits(part)), api.ErrForm)
	do(t, r, api.CSwitch, "dev")
	refused(t, r, signed(api.CMerge, digits(part), 2), api.ErrClean)
	refused(t, r, signed(api.CPick, digits(part), 2), api.ErrClean)
	do(t, r, api.CSwitch, "main")
	id := done(t, r, signed(api.CPick, digits(part), 3)) // the commit that is made has all that the change hangs on
	if o := read(t, r, id).Commit; !slices.Equal(o.Changes, order.Set(changes)) {
		t.Errorf("%+v", o)
	}
	comes(t, r, "", "a", "x", "one", "", "two", "")
	merged := done(t, r, signed(api.CMerge, digits(part), 4)) // likewise
	if set, e := r.Past(merged); e != api.OK || len(set) != 4 {
		t.Errorf("%x, %d", set, e)
	}
	moved(t, r, api.Update{Kind: api.RHead, Name: "new"})
	refused(t, r, signed(api.CMerge, digits(part), 5), api.ErrNone)
}

// P24.1: CMerge to a commit that is known, but not whole, and has the head in its past.
func TestMergeNotWhole(t *testing.T) {
	r, _ := begun(t)
	first := commit(t, r, 1, "a", "x")
	one := taken(t, r, creation(1, "one"))
	two := taken(t, r, creation(2, "two", one...))
	part := taken(t, r, joint(1, ids(first), two))
	whole := taken(t, r, joint(2, part, one))
	moved(t, r, api.Update{Kind: api.RBranch, Name: "dev", New: whole[0]})
	refused(t, r, signed(api.CMerge, digits(part[0]), 2), api.ErrForm)
	answers(t, r, signed(api.CMerge, digits(whole[0]), 2), api.Answer{Id: whole[0]})
}

// P24.1: CPick of a commit whose changes, or what these hang on, somebody has taken from the disk.
func TestPickTaken(t *testing.T) {
	r, d := begun(t)
	first := commit(t, r, 1, "a", "x")
	do(t, r, api.CBranch, "dev")
	do(t, r, api.CSwitch, "dev")
	second := commit(t, r, 2, "a", "xy")
	third := commit(t, r, 3, "a", "xyz")
	do(t, r, api.CSwitch, "main")
	change := func(id api.Id) api.Id { return read(t, r, id).Commit.Changes[0] }
	for _, gone := range []api.Id{change(second), change(third), third} {
		b, _ := r.Object(gone)
		if e := d.Remove("o-" + digits(gone)); e != api.OK {
			t.Fatal(e)
		}
		refused(t, r, signed(api.CPick, "dev", 4), api.ErrForm)
		r.Take([][]byte{b})
	}
	comes(t, r, "", "a", "x")
	if id := done(t, r, signed(api.CPick, "dev", 4)); id == first {
		t.Error("nothing was made")
	}
	comes(t, r, "", "a", "xyz")
}

// P24.1, P24.3: which commits are whole.
func TestWholeness(t *testing.T) {
	insert := func(time int, doc, at api.Ref, text string) api.Object {
		return api.Object{Kind: api.KChange, Change: api.Change{Time: time, Deps: order.Minus(ids(doc.Change, at.Change), ids(api.Id{})), Author: "Bob", Ops: []api.Op{{Kind: api.OInsert, Doc: doc, At: at, Text: text}}}}
	}
	r, d := begun(t)
	one := taken(t, r, creation(5, "one"))[0]
	two := taken(t, r, creation(5, "two"))[0]
	in := taken(t, r, insert(6, api.Ref{Change: one}, api.Ref{Change: one}, "x"))[0]
	late := taken(t, r, insert(5, api.Ref{Change: one}, api.Ref{Change: one}, "x"))[0]         // not later than what it hangs on
	wrong := taken(t, r, insert(7, api.Ref{Change: two}, api.Ref{Change: in}, "y"))[0]         // an element of another document
	useless := taken(t, r, insert(7, api.Ref{Change: in}, api.Ref{Change: in}, "y"))[0]        // no document
	upon := taken(t, r, creation(9, "upon", wrong))[0]                                         // hangs on one that does not fit
	far := taken(t, r, insert(7, api.Ref{Change: one}, api.Ref{Change: in, Index: 1}, "z"))[0] // no such element
	base := taken(t, r, joint(1, nil, ids(one)))[0]
	next := taken(t, r, joint(2, ids(base), ids(in)))[0]
	for _, c := range []struct {
		what  string
		o     api.Object
		whole bool
	}{
		{"nothing", joint(0, nil, nil), true},
		{"a change", joint(0, nil, ids(one)), true},
		{"two changes", joint(0, nil, ids(one, two, in)), true},
		{"upon its parent's", joint(0, ids(base), ids(in)), true},
		{"the parent's once more", joint(0, ids(base), ids(one)), true},
		{"a missing one", joint(0, nil, ids(in)), false},
		{"another parent", joint(0, taken(t, r, joint(3, nil, ids(two))), ids(in)), false},
		{"late", joint(0, ids(base), ids(late)), false},
		{"wrong", joint(0, ids(base), ids(two, in, wrong)), false},
		{"useless", joint(0, ids(base), ids(in, useless)), false},
		{"upon wrong", joint(0, ids(base), ids(two, in, wrong, upon)), false},
		{"far", joint(0, ids(base), ids(in, far)), false},
		{"no change", joint(0, nil, ids(base)), false},
		{"no object", joint(0, nil, ids(one, api.Id{1})), false},
		{"no commit", joint(0, ids(one), nil), false},
		{"no parent", joint(0, ids(api.Id{1}, base), nil), false},
		{"both", joint(0, ids(base, next), nil), true},
		{"far behind", joint(9, taken(t, r, joint(0, taken(t, r, joint(0, ids(next), ids(far))), nil)), nil), false},
	} {
		id := taken(t, r, c.o)[0]
		want := map[bool]api.Errno{true: api.OK, false: api.ErrForm}[c.whole]
		if _, e := r.Past(id); e != want {
			t.Errorf("%s: error %d", c.what, e)
		}
		if e := r.Move([]api.Update{{Kind: api.RHead, New: id}}, ""); e != want {
			t.Errorf("%s: error %d", c.what, e)
		}
		if now, e := repo.Open(d); e != api.OK || c.whole && now.Refs().At != id {
			t.Errorf("%s: error %d", c.what, e)
		}
	}
}

// forged is a disk with objects, and with refs that updates have made, whatever they are at.
func forged(t *testing.T, objects []api.Object, l ...api.Update) (*disk.Disk, []api.Id) {
	t.Helper()
	d := disk.New(ample)
	v, e := vault.Open(d)
	j, f := journal.Open(d)
	if e != api.OK || f != api.OK {
		t.Fatal(e, f)
	}
	var made []api.Id
	for _, o := range objects {
		b, _ := object.Encode(o)
		id, _, e := v.Put(b)
		if e != api.OK {
			t.Fatal(e)
		}
		made = append(made, id)
	}
	if e := j.Commit(l, "forged"); e != api.OK {
		t.Fatal(e)
	}
	return d, made
}

// P24.1: Open's errors: of the disk, the journal, and the roots, the log's among them.
func TestOpen(t *testing.T) {
	down, _ := forged(t, nil)
	down.Arm(1)
	down.Sync("journal")
	broken := disk.New(ample)
	broken.Append("journal", []byte{1, 'X'})
	for want, d := range map[api.Errno]*disk.Disk{api.ErrArg: nil, api.ErrDown: down, api.ErrForm: broken} {
		if r, e := repo.Open(d); r != nil || e != want {
			t.Errorf("%v, %d; want %d", r, e, want)
		}
	}
	base, change := joint(1, nil, nil), creation(1, "x")
	good, _ := object.Id(base)
	other, _ := object.Id(change)
	branch := func(id api.Id) api.Update { return api.Update{Kind: api.RBranch, Name: "main", New: id} }
	for _, l := range [][]api.Update{
		{branch(api.Id{1})},
		{branch(other)},
		{branch(good), {Kind: api.RTag, Name: "v", New: api.Id{1}}},
		{branch(good), {Kind: api.RHead, New: other}},
		{branch(good), {Kind: api.RTag, Name: "v", New: api.Id{1}}, {Kind: api.RTag, Name: "v", Old: api.Id{1}}}, // in the log alone
	} {
		d, _ := forged(t, []api.Object{base, change}, l...)
		before := d.List()
		if r, e := repo.Open(d); r != nil || e != api.ErrForm || !slices.Equal(d.List(), before) {
			t.Errorf("%+v: %d", l, e)
		}
		v, _ := vault.Open(d)
		v.Keep(v.Ids(), nil) // in packs it is the same
		if r, e := repo.Open(d); r != nil || e != api.ErrForm {
			t.Errorf("%+v: %d", l, e)
		}
	}
	d, _ := forged(t, []api.Object{base, change}, branch(good))
	if r, e := repo.Open(d); e != api.OK || r.Refs().Branches[0].Id != good {
		t.Errorf("%d", e)
	}
	one, two := creation(1, "one"), joint(2, nil, nil)
	first, _ := object.Id(one)
	hangs := creation(2, "two", first)
	second, _ := object.Id(hangs)
	part := joint(1, nil, ids(second))
	partId, _ := object.Id(part)
	two.Commit.Parents, two.Commit.Changes = ids(partId), ids(first)
	whole, _ := object.Id(two)
	all := []api.Object{one, hangs, part, two}
	d, _ = forged(t, all, branch(whole))
	if _, e := repo.Open(d); e != api.OK {
		t.Errorf("%d", e)
	}
	d, _ = forged(t, all, branch(whole), api.Update{Kind: api.RTag, Name: "v", New: partId}) // what fits among all does not alone
	if r, e := repo.Open(d); r != nil || e != api.ErrForm {
		t.Errorf("%d", e)
	}
}

// P24.1, P24.2: objects that somebody has taken from the disk.
func TestTaken(t *testing.T) {
	for _, gone := range []string{"change", "commit", "base"} {
		r, d := begun(t)
		first := commit(t, r, 1, "a", "x")
		second := commit(t, r, 2, "a", "y")
		do(t, r, api.CBranch, "dev", digits(first))
		id := map[string]api.Id{"change": read(t, r, second).Commit.Changes[0], "commit": second, "base": read(t, r, first).Commit.Changes[0]}[gone]
		if e := d.Remove("o-" + digits(id)); e != api.OK {
			t.Fatal(e)
		}
		if !r.Known(first) || !r.Known(second) {
			t.Errorf("%s: not known", gone)
		}
		for _, name := range []string{"", "main", digits(second)} {
			for _, kind := range []uint8{api.CCheckout, api.CLog, api.CBlame, api.CDiff, api.CSwitch} {
				refused(t, r, named(kind, name, "dev"), api.ErrForm)
			}
			refused(t, r, named(api.CBranch, "new", name), api.ErrForm)
		}
		for _, c := range []api.Command{{Kind: api.CStatus}, {Kind: api.CCommit, Author: "Ann", Files: files("z", "")}, {Kind: api.CGc}, signed(api.CPick, "dev", 3)} {
			refused(t, r, c, api.ErrForm)
		}
		if _, e := r.Reach(ids(second)); e != api.ErrForm {
			t.Errorf("%s: error %d", gone, e)
		}
		if _, e := r.Past(second); e != api.ErrForm {
			t.Errorf("%s: error %d", gone, e)
		}
		if _, e := r.Object(id); e != api.ErrMissing {
			t.Errorf("%s: error %d", gone, e)
		}
		if l := d.List(); len(l) != 4 { // the journal, and all the others
			t.Errorf("%s: %q", gone, l)
		}
		if _, e := repo.Open(d); e != api.ErrForm {
			t.Errorf("%s: error %d", gone, e)
		}
		answers(t, r, named(api.CRepack), api.Answer{}) // of all that is there
		if gone != "base" {
			do(t, r, api.CTag, "v", "dev")
		}
	}
}

// P24.3: what is brought makes whole what was not.
func TestBrought(t *testing.T) {
	r, _ := begun(t)
	a, _ := begun(t)
	first := commit(t, r, 1, "a", "x")
	second := commit(t, r, 2, "a", "xy")
	b, e := r.Bundle(ids(second), ids(first), nil)
	if got := a.Unbundle(b); e != api.OK || !same(got, api.Answer{}) {
		t.Fatalf("%d, %+v", e, got)
	}
	to := []api.Update{{Kind: api.RBranch, Name: "main", New: second}}
	if e := a.Move(to, ""); e != api.ErrForm {
		t.Errorf("%d", e)
	}
	if _, e := a.Past(second); e != api.ErrForm {
		t.Errorf("%d", e)
	}
	b, _ = r.Bundle(ids(first), nil, nil)
	p, _ := pack.Open(b)
	for _, id := range p.Ids() {
		if _, e := a.Past(second); e != api.ErrForm {
			t.Errorf("%d", e)
		}
		b, _ := p.Get(id)
		a.Take([][]byte{b})
	}
	if l, e := a.Past(second); e != api.OK || len(l) != 2 || a.Known(second) {
		t.Errorf("%x, %d", l, e)
	}
	if e := a.Move(to, ""); e != api.OK || !a.Known(first) {
		t.Errorf("%d", e)
	}
	comes(t, a, "", "a", "xy")
	answers(t, a, named(api.CLog), r.Do(named(api.CLog)))
}

// asked asks a repository all that can be asked. It tells what errors there were.
func asked(r *repo.Repo, id api.Id) (met []api.Errno) {
	for kind := range api.CRepack + 2 {
		met = append(met, r.Do(api.Command{Kind: kind, Name: digits(id), Other: "a", Author: "Ann", Files: files("z", "z")}).Error)
		met = append(met, r.Do(api.Command{Kind: kind, Author: "Ann"}).Error)
	}
	r.Refs()
	r.Known(id)
	_, reach := r.Reach(ids(id))
	_, object := r.Object(id)
	_, past := r.Past(id)
	b, bundle := r.Bundle(ids(id), ids(id, api.Id{1}), nil)
	bytes, _ := r.Object(id)
	return append(met, reach, object, past, bundle, r.Unbundle(b).Error, r.Take([][]byte{bytes}).Error, r.Move([]api.Update{{Kind: api.RTag, Name: "w", New: id}}, ""))
}

// P24.4: a disk that is down, or has crashed since it was opened, with objects in packs, and in files of their own.
func TestDown(t *testing.T) {
	for _, packed := range []bool{false, true} {
		for n := 1; n < 6; n++ {
			r, d := begun(t)
			id := commit(t, r, 1, "a", "x")
			if packed {
				do(t, r, api.CGc)
			}
			d.Arm(n)
			answers(t, r, api.Command{Kind: api.CCommit, Files: files("a", "y"), Author: "Ann"}, api.Answer{Error: api.ErrDown})
			if met := asked(r, id); !slices.Contains(met, api.ErrDown) {
				t.Errorf("%v", met)
			}
			if set, e := r.Reach(ids(id)); !packed && (e != api.ErrDown || len(set) != 0) {
				t.Errorf("%x, %d", set, e)
			}
			for _, fates := range [][]int{{n, n, n}, nil} {
				d.Crash(fates)
				asked(r, id)
			}
		}
	}
}
