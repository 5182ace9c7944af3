package repo_test

import (
	"encoding/hex"
	"reflect"
	"slices"
	"strconv"
	"strings"
	"testing"

	"variorum/api"
	"variorum/disk"
	"variorum/object"
	"variorum/order"
	"variorum/pack"
	"variorum/refs"
	"variorum/repo"
	"variorum/vault"
)

// ample is a quota that nothing here comes up to.
const ample = 1 << 28

// opened is a disk's repository.
func opened(t *testing.T, d *disk.Disk) *repo.Repo {
	t.Helper()
	r, e := repo.Open(d)
	if e != api.OK || r == nil {
		t.Fatalf("Open: error %d", e)
	}
	return r
}

// begun is a repository without anything, and its disk.
func begun(t *testing.T) (*repo.Repo, *disk.Disk) {
	t.Helper()
	d := disk.New(ample)
	return opened(t, d), d
}

// files is paths and texts in turn.
func files(l ...string) []api.File {
	var files []api.File
	for ; len(l) > 0; l = l[2:] {
		files = append(files, api.File{Path: l[0], Bytes: l[1]})
	}
	return files
}

func digits(id api.Id) string { return hex.EncodeToString(id[:]) }

// same: are two answers one, empty lists being the same as none?
func same(a, b api.Answer) bool {
	return a.Error == b.Error && a.Id == b.Id && slices.Equal(a.Files, b.Files) && slices.Equal(a.Runs, b.Runs) && slices.Equal(a.Lines, b.Lines)
}

// answers fails, unless a command is answered so.
func answers(t *testing.T, r *repo.Repo, c api.Command, want api.Answer) {
	t.Helper()
	if got := r.Do(c); !same(got, want) {
		t.Errorf("%+v: %+v; want %+v", c, got, want)
	}
}

// refused fails, unless a command is refused with that error, and has changed nothing of the refs.
func refused(t *testing.T, r *repo.Repo, c api.Command, want api.Errno) {
	t.Helper()
	ahead := r.Refs()
	answers(t, r, c, api.Answer{Error: want})
	if got := r.Refs(); !reflect.DeepEqual(got, ahead) {
		t.Errorf("%+v: refs %+v; want %+v", c, got, ahead)
	}
}

// done fails, if a command has an error. It tells the answer's id.
func done(t *testing.T, r *repo.Repo, c api.Command) api.Id {
	t.Helper()
	a := r.Do(c)
	if a.Error != api.OK {
		t.Fatalf("%+v: error %d", c, a.Error)
	}
	return a.Id
}

// commit commits files (paths and texts in turn) at a stamp.
func commit(t *testing.T, r *repo.Repo, stamp int, l ...string) api.Id {
	t.Helper()
	return done(t, r, api.Command{Kind: api.CCommit, Files: files(l...), Author: "Ann", Note: "n" + strconv.Itoa(stamp), Stamp: stamp})
}

// do does a command of names alone.
func do(t *testing.T, r *repo.Repo, kind uint8, names ...string) api.Id {
	t.Helper()
	return done(t, r, named(kind, names...))
}

// named is a command of names alone.
func named(kind uint8, names ...string) api.Command {
	names = append(names, "", "")
	return api.Command{Kind: kind, Name: names[0], Other: names[1]}
}

// signed is a merge, or a pick, by Ann.
func signed(kind uint8, name string, stamp int) api.Command {
	return api.Command{Kind: kind, Name: name, Author: "Ann", Note: "n" + strconv.Itoa(stamp), Stamp: stamp}
}

// comes fails, unless what a name is at comes to files (paths and texts in turn).
func comes(t *testing.T, r *repo.Repo, name string, want ...string) {
	t.Helper()
	if a := r.Do(named(api.CCheckout, name)); a.Error != api.OK || !slices.Equal(a.Files, files(want...)) {
		t.Errorf("%q: %q, error %d; want %q", name, a.Files, a.Error, want)
	}
}

// lines fails, unless a command is answered by lines, and no id.
func lines(t *testing.T, r *repo.Repo, c api.Command, want ...string) {
	t.Helper()
	answers(t, r, c, api.Answer{Lines: want})
}

// read is the object that has an id.
func read(t *testing.T, r *repo.Repo, id api.Id) api.Object {
	t.Helper()
	b, e := r.Object(id)
	o, f := object.Decode(b)
	if e != api.OK || f != api.OK {
		t.Fatalf("%x: error %d, %d", id, e, f)
	}
	return o
}

// taken gives objects to a repository, and tells their ids.
func taken(t *testing.T, r *repo.Repo, objects ...api.Object) []api.Id {
	t.Helper()
	var ids []api.Id
	var all [][]byte
	for _, o := range objects {
		b, e := object.Encode(o)
		if e != api.OK {
			t.Fatalf("%+v: error %d", o, e)
		}
		id, _ := object.Id(o)
		ids, all = append(ids, id), append(all, b)
	}
	if a := r.Take(all); !same(a, api.Answer{}) {
		t.Fatalf("Take: %+v", a)
	}
	return ids
}

// creation is a change that creates a path.
func creation(time int, path string, deps ...api.Id) api.Object {
	return api.Object{Kind: api.KChange, Change: api.Change{Time: time, Deps: order.Set(deps), Author: "Bob", Ops: []api.Op{{Kind: api.OCreate, Path: path}}}}
}

// joint is a commit.
func joint(stamp int, parents, changes []api.Id) api.Object {
	return api.Object{Kind: api.KCommit, Commit: api.Commit{Parents: order.Set(parents), Changes: order.Set(changes), Author: "Bob", Message: "m", Stamp: stamp}}
}

// ids is a list of some.
func ids(l ...api.Id) []api.Id { return l }

// moved does updates to a repository's refs.
func moved(t *testing.T, r *repo.Repo, l ...api.Update) {
	t.Helper()
	if e := r.Move(l, "moved"); e != api.OK {
		t.Fatalf("Move: error %d", e)
	}
}

// The examples of the chapter.
func TestExamples(t *testing.T) {
	one := func(name, first, second string) api.Id {
		r, _ := begun(t)
		commit(t, r, 1, "a", "hi")
		do(t, r, api.CBranch, "dev")
		do(t, r, api.CSwitch, "dev")
		commit(t, r, 2, "a", first)
		do(t, r, api.CSwitch, "main")
		commit(t, r, 2, "a", second)
		if name == "main" {
			do(t, r, api.CSwitch, "dev")
		}
		id := done(t, r, signed(api.CMerge, name, 5))
		comes(t, r, "", "a", "Hi!")
		return id
	}
	if a, b := one("dev", "hi!", "Hi"), one("main", "hi!", "Hi"); a != b {
		t.Errorf("%x, %x", a, b)
	}
}

// The examples of the whole, as far as they are a repository's.
func TestWhole(t *testing.T) {
	r, d := begun(t)
	first := commit(t, r, 1, "a", "one\ntwo\n")
	if do(t, r, api.CBranch, "dev") != first || do(t, r, api.CSwitch, "dev") != first {
		t.Error("another id")
	}
	commit(t, r, 2, "a", "one\nTWO\n")
	do(t, r, api.CSwitch, "main")
	commit(t, r, 3, "a", "ONE\ntwo\n")
	done(t, r, signed(api.CMerge, "dev", 4))
	comes(t, r, "", "a", "ONE\nTWO\n")
	a := r.Do(named(api.CBlame, "", "a"))
	by := map[api.Id]int{}
	for _, run := range a.Runs {
		by[run.Change]++
	}
	if len(by) != 3 || len(a.Runs) != 4 || a.Id != r.Do(named(api.CCheckout)).Id {
		t.Errorf("%+v", a)
	}
	now := files("b", "x", "c", "ONE\nTWO\n")
	lines(t, r, api.Command{Kind: api.CStatus, Files: now}, "add b 1", "move a c 0")
	third := done(t, r, api.Command{Kind: api.CCommit, Files: now, Moves: [][2]string{{"a", "c"}}, Author: "Ann", Note: "third", Stamp: 5})
	a = r.Do(named(api.CLog))
	if len(a.Lines) != 5 || a.Lines[0] != digits(third)+" 5 Ann third" || a.Id != third {
		t.Errorf("%+v", a)
	}
	do(t, r, api.CGc)
	done(t, r, api.Command{Kind: api.CRepack, Choices: []int{1, 2, 3}})
	d.Crash([]int{5, 5, 5})
	r = opened(t, d)
	answers(t, r, named(api.CLog), a)
	refused(t, r, named(api.CDrop, "nope"), api.ErrNone)
	refused(t, r, api.Command{Kind: api.CCommit, Files: now, Author: "Ann"}, api.ErrClean)
}

// P24.1: CCommit, upon nothing, a branch, an id.
func TestCommit(t *testing.T) {
	r, _ := begun(t)
	first := commit(t, r, 7, "b", "x", "a", "y")
	o := read(t, r, first).Commit
	if len(o.Parents) != 0 || len(o.Changes) != 1 || o.Author != "Ann" || o.Message != "n7" || o.Stamp != 7 {
		t.Errorf("%+v", o)
	}
	c := read(t, r, o.Changes[0]).Change
	if c.Time != 1 || c.Author != "Ann" || len(c.Ops) != 4 {
		t.Errorf("%+v", c)
	}
	log := []api.Entry{{Update: api.Update{Kind: api.RBranch, Name: "main", New: first}, Note: "n7"}}
	if now := r.Refs(); !slices.Equal(now.Branches, []refs.Named{{Name: "main", Id: first}}) || !slices.Equal(now.Log, log) || now.Head != "main" {
		t.Errorf("%+v", now)
	}
	second := commit(t, r, 7, "a", "y")
	if o := read(t, r, second).Commit; !slices.Equal(o.Parents, ids(first)) {
		t.Errorf("%+v", o)
	}
	do(t, r, api.CSwitch, digits(first))
	third := commit(t, r, 0, "a", "z", "b", "x")
	now := r.Refs()
	if now.Head != "" || now.At != third || !slices.Equal(now.Branches, []refs.Named{{Name: "main", Id: second}}) {
		t.Errorf("%+v", now)
	}
	if e := now.Log[len(now.Log)-1]; e != (api.Entry{Update: api.Update{Kind: api.RHead, New: third}, Note: "n0"}) {
		t.Errorf("%+v", e)
	}
	if o := read(t, r, third).Commit; !slices.Equal(o.Parents, ids(first)) || o.Stamp != 0 {
		t.Errorf("%+v", o)
	}
	comes(t, r, "main", "a", "y")
	comes(t, r, "", "a", "z", "b", "x")
	last := done(t, r, api.Command{Kind: api.CCommit, Author: "B", Note: "", Stamp: api.MaxTime}) // all files gone
	comes(t, r, "")
	if o := read(t, r, last).Commit; o.Message != "" || o.Stamp != api.MaxTime || o.Author != "B" {
		t.Errorf("%+v", o)
	}
}

// P24.1: CCommit's errors, each ahead of those that are named later.
func TestCommitErrors(t *testing.T) {
	r, _ := begun(t)
	commit(t, r, 1, "a", "x", "b", "y")
	long := strings.Repeat("x", api.MaxFile+1)
	for _, c := range []struct {
		command api.Command
		e       api.Errno
	}{
		{api.Command{Note: "\xff"}, api.ErrArg},
		{api.Command{Note: strings.Repeat("x", api.MaxMessage+1), Author: "Ann"}, api.ErrArg},
		{api.Command{Stamp: -1}, api.ErrArg},
		{api.Command{Stamp: api.MaxTime + 1, Author: "Ann", Files: files("c", "x")}, api.ErrArg},
		{api.Command{Files: files("", "")}, api.ErrName},
		{api.Command{Author: "a\n", Files: files("a", "x", "b", "y")}, api.ErrName},
		{api.Command{Author: "Ann", Files: files("a", "x", "a/b", "")}, api.ErrThere},
		{api.Command{Author: "Ann", Files: files("..", "x")}, api.ErrName},
		{api.Command{Author: "Ann", Files: files("a", long)}, api.ErrLong},
		{api.Command{Author: "Ann", Files: files("a", "\xff")}, api.ErrText},
		{api.Command{Author: "Ann", Files: files("c", "x"), Moves: [][2]string{{"a", "d"}}}, api.ErrNone},
		{api.Command{Author: "Ann", Files: files("c", "x"), Moves: [][2]string{{"a", "c"}, {"a", "c"}}}, api.ErrThere},
		{api.Command{Author: "Ann", Files: files("b", "y", "a", "x")}, api.ErrClean},
		{api.Command{Author: "Ann", Files: files("b", "y", "a", "x"), Moves: [][2]string{{"a", "a"}}}, api.ErrClean},
	} {
		c.command.Kind = api.CCommit
		refused(t, r, c.command, c.e)
	}
	empty, _ := begun(t)
	refused(t, empty, api.Command{Kind: api.CCommit, Author: "Ann"}, api.ErrClean)
	late := taken(t, r, creation(api.MaxTime, "c"))
	tip := taken(t, r, joint(1, nil, late))
	moved(t, r, api.Update{Kind: api.RHead, New: tip[0]})
	refused(t, r, api.Command{Kind: api.CCommit, Author: "Ann", Files: files("a", "x")}, api.ErrTime)
	comes(t, r, "", "c", "")
}

// P24.1: what a name is at: the head, a branch, a tag, an id in digits, in this order; what is not known, and no commit.
func TestNames(t *testing.T) {
	r, _ := begun(t)
	for _, kind := range []uint8{api.CCheckout, api.CLog, api.CBlame, api.CSwitch, api.CDiff} {
		for _, name := range []string{"", "main", "nope", "HEAD", ".", "\xff", strings.Repeat("g", 64), strings.Repeat("0", 63)} {
			refused(t, r, named(kind, name), api.ErrNone)
		}
		refused(t, r, named(kind, strings.Repeat("0", 64)), api.ErrMissing)
	}
	first := commit(t, r, 1, "a", "1")
	second := commit(t, r, 2, "a", "2")
	do(t, r, api.CTag, "both", digits(first))
	do(t, r, api.CTag, "tag", digits(first))
	do(t, r, api.CBranch, "both")
	for name, text := range map[string]string{"": "2", "main": "2", "both": "2", "tag": "1", digits(first): "1", digits(second): "2"} {
		comes(t, r, name, "a", text)
	}
	change := read(t, r, first).Commit.Changes[0]
	stray := taken(t, r, joint(9, ids(first), nil))[0]
	for _, id := range []api.Id{change, stray, {1}, {}} {
		for _, kind := range []uint8{api.CCheckout, api.CLog, api.CBlame, api.CSwitch, api.CDiff, api.CMerge, api.CPick} {
			refused(t, r, api.Command{Kind: kind, Name: digits(id), Author: "Ann"}, api.ErrMissing)
		}
		refused(t, r, named(api.CBranch, "new", digits(id)), api.ErrMissing)
		refused(t, r, named(api.CTag, "new", digits(id)), api.ErrMissing)
		refused(t, r, named(api.CDiff, "", digits(id)), api.ErrMissing)
	}
	refused(t, r, named(api.CCheckout, strings.ToUpper(digits(first))), api.ErrNone)
}

// P24.1: CBranch, CTag, CDrop, CUntag, CSwitch: what they do, and their entries.
func TestRefs(t *testing.T) {
	r, _ := begun(t)
	first := commit(t, r, 1, "a", "1")
	second := commit(t, r, 2, "a", "2")
	answers(t, r, named(api.CBranch, "dev", digits(first)), api.Answer{Id: first})
	answers(t, r, named(api.CTag, "v1"), api.Answer{Id: second})
	answers(t, r, named(api.CTag, "main", "dev"), api.Answer{Id: first}) // as a tag it is not there
	answers(t, r, named(api.CSwitch, "dev"), api.Answer{Id: first})
	if now := r.Refs(); now.Head != "dev" {
		t.Errorf("%+v", now)
	}
	answers(t, r, named(api.CSwitch, "main"), api.Answer{Id: second}) // a branch ahead of a tag
	if now := r.Refs(); now.Head != "main" || now.At != (api.Id{}) {
		t.Errorf("%+v", now)
	}
	answers(t, r, named(api.CSwitch, "v1"), api.Answer{Id: second})
	answers(t, r, named(api.CDrop, "main"), api.Answer{})
	answers(t, r, named(api.CSwitch, "main"), api.Answer{Id: first}) // the tag
	if now := r.Refs(); now.Head != "" || now.At != first {
		t.Errorf("%+v", now)
	}
	answers(t, r, named(api.CUntag, "v1"), api.Answer{})
	zero := strings.Repeat("0", 64)
	lines(t, r, named(api.CRefs), "head "+digits(first), "branch dev "+digits(first), "tag main "+digits(first))
	lines(t, r, named(api.CReflog),
		"tag v1 "+digits(second)+" "+zero+" untag",
		"head  "+zero+" "+digits(first)+" switch",
		"branch main "+digits(second)+" "+zero+" drop",
		"head  "+zero+" "+digits(second)+" switch",
		"head main "+zero+" "+zero+" switch",
		"head dev "+zero+" "+zero+" switch",
		"tag main "+zero+" "+digits(first)+" tag",
		"tag v1 "+zero+" "+digits(second)+" tag",
		"branch dev "+zero+" "+digits(first)+" branch",
		"branch main "+digits(first)+" "+digits(second)+" n2",
		"branch main "+zero+" "+digits(first)+" n1",
	)
	do(t, r, api.CSwitch, "dev")
	answers(t, r, named(api.CSwitch, ""), api.Answer{Id: first}) // on no branch any more
	if now := r.Refs(); now.Head != "" || now.At != first {
		t.Errorf("%+v", now)
	}
}

// P24.1: the lines of refs where there is nothing; notes as they are.
func TestRefsLines(t *testing.T) {
	r, _ := begun(t)
	lines(t, r, named(api.CRefs), "head main")
	lines(t, r, named(api.CReflog))
	id := done(t, r, api.Command{Kind: api.CCommit, Files: files("a", ""), Author: "Ann B", Note: "x\ny ", Stamp: 3})
	lines(t, r, named(api.CRefs), "head main", "branch main "+digits(id))
	lines(t, r, named(api.CReflog), "branch main "+strings.Repeat("0", 64)+" "+digits(id)+" x\ny ")
	answers(t, r, named(api.CLog), api.Answer{Id: id, Lines: []string{digits(id) + " 3 Ann B x\ny "}})
	next := done(t, r, api.Command{Kind: api.CCommit, Author: "C", Stamp: 0})
	answers(t, r, named(api.CLog, "main"), api.Answer{Id: next, Lines: []string{digits(next) + " 0 C ", digits(id) + " 3 Ann B x\ny "}})
}

// P24.1: the errors of what does something to refs.
func TestRefsErrors(t *testing.T) {
	r, _ := begun(t)
	for _, kind := range []uint8{api.CBranch, api.CTag} {
		refused(t, r, named(kind, "dev"), api.ErrNone) // the head is on nothing
		refused(t, r, named(kind, "-dev"), api.ErrName)
	}
	first := commit(t, r, 1, "a", "1")
	do(t, r, api.CTag, "v1")
	for _, kind := range []uint8{api.CBranch, api.CTag} {
		for _, name := range []string{"", "HEAD", ".x", "a b", strings.Repeat("x", 33), digits(first)} {
			refused(t, r, named(kind, name, "nope"), api.ErrName)
		}
		refused(t, r, named(kind, "x", "nope"), api.ErrNone)
		refused(t, r, named(kind, map[uint8]string{api.CBranch: "main", api.CTag: "v1"}[kind], "nope"), api.ErrThere)
	}
	for _, name := range []string{"", "v1", "x", digits(first)} {
		refused(t, r, named(api.CDrop, name), api.ErrNone)
	}
	for _, name := range []string{"", "main", "x", digits(first)} {
		refused(t, r, named(api.CUntag, name), api.ErrNone)
	}
	refused(t, r, named(api.CDrop, "main"), api.ErrHead)
	for i := range api.MaxRefs - 1 {
		do(t, r, api.CBranch, "b"+strconv.Itoa(i))
		do(t, r, api.CTag, "t"+strconv.Itoa(i))
	}
	for _, kind := range []uint8{api.CBranch, api.CTag} {
		refused(t, r, named(kind, "more"), api.ErrFull)
		refused(t, r, named(kind, "more", "nope"), api.ErrNone)
	}
	moved(t, r, api.Update{Kind: api.RHead, Name: "more"})
	refused(t, r, api.Command{Kind: api.CCommit, Files: files("b", ""), Author: "Ann"}, api.ErrFull) // the head's branch can't be made
	do(t, r, api.CDrop, "b7")
	commit(t, r, 2, "b", "")
}

// P24.1: other kinds; and those that have nothing to answer.
func TestKinds(t *testing.T) {
	r, _ := begun(t)
	commit(t, r, 1, "a", "1")
	for _, kind := range []uint8{0, api.CRepack + 1, 100, 255} {
		refused(t, r, api.Command{Kind: kind, Note: "\xff", Stamp: -1}, api.ErrArg)
	}
	for _, kind := range []uint8{api.CGc, api.CRepack} {
		answers(t, r, api.Command{Kind: kind, Note: "\xff", Stamp: -1, Name: "nope"}, api.Answer{})
	}
	for _, kind := range []uint8{api.CCheckout, api.CLog, api.CRefs, api.CReflog, api.CStatus, api.CDiff, api.CTag} { // which have no note
		if a := r.Do(api.Command{Kind: kind, Name: map[bool]string{true: "v1"}[kind == api.CTag], Note: "\xff", Stamp: -1}); a.Error != api.OK {
			t.Errorf("%d: %+v", kind, a)
		}
	}
}

// P24.1: CMerge: what is in the past, what has the head in its past, and both.
func TestMerge(t *testing.T) {
	r, _ := begun(t)
	refused(t, r, signed(api.CMerge, "", 1), api.ErrNone)
	base := commit(t, r, 1, "a", "one\ntwo\n")
	do(t, r, api.CBranch, "dev")
	for _, name := range []string{"", "main", "dev", digits(base)} {
		refused(t, r, signed(api.CMerge, name, 1), api.ErrClean)
	}
	next := commit(t, r, 2, "a", "one\ntwo\nthree\n")
	refused(t, r, signed(api.CMerge, "dev", 1), api.ErrClean)
	do(t, r, api.CSwitch, "dev")
	answers(t, r, signed(api.CMerge, "main", 9), api.Answer{Id: next}) // the head moves on
	now := r.Refs()
	if e := now.Log[len(now.Log)-1]; e != (api.Entry{Update: api.Update{Kind: api.RBranch, Name: "dev", Old: base, New: next}, Note: "n9"}) {
		t.Errorf("%+v", e)
	}
	left := commit(t, r, 3, "a", "one\nthree\n")
	do(t, r, api.CSwitch, digits(next))
	right := commit(t, r, 4, "a", "zero\none\ntwo\nthree\n")
	both := done(t, r, signed(api.CMerge, "dev", 5))
	want := api.Commit{Parents: order.Set(ids(left, right)), Author: "Ann", Message: "n5", Stamp: 5}
	if o := read(t, r, both).Commit; !slices.Equal(o.Parents, want.Parents) || len(o.Changes) != 0 || o.Author != "Ann" || o.Message != "n5" || o.Stamp != 5 {
		t.Errorf("%+v", o)
	}
	if now := r.Refs(); now.At != both {
		t.Errorf("%+v", now)
	}
	comes(t, r, "", "a", "zero\none\nthree\n")
	refused(t, r, signed(api.CMerge, "dev", 6), api.ErrClean)
	refused(t, r, signed(api.CMerge, "nope", 6), api.ErrNone)
	for _, c := range []struct {
		command api.Command
		e       api.Errno
	}{
		{api.Command{Note: "\xff"}, api.ErrArg},
		{api.Command{Stamp: -1}, api.ErrArg},
		{api.Command{Stamp: api.MaxTime + 1, Author: "Ann"}, api.ErrArg},
		{api.Command{Name: "nope"}, api.ErrName},
		{api.Command{Name: "nope", Author: strings.Repeat("x", 33)}, api.ErrName},
	} {
		for _, kind := range []uint8{api.CMerge, api.CPick} {
			c.command.Kind = kind
			refused(t, r, c.command, c.e)
		}
	}
}

// P24.1: CPick: a commit's changes alone, with all that they hang on.
func TestPick(t *testing.T) {
	r, _ := begun(t)
	refused(t, r, signed(api.CPick, "", 1), api.ErrNone)
	base := commit(t, r, 1, "a", "x")
	do(t, r, api.CBranch, "dev")
	do(t, r, api.CSwitch, "dev")
	second := commit(t, r, 2, "a", "x", "b", "1")
	commit(t, r, 3, "a", "xy", "b", "1")
	third := commit(t, r, 4, "a", "xy", "b", "12")
	do(t, r, api.CSwitch, "main")
	refused(t, r, signed(api.CPick, "", 5), api.ErrClean)
	refused(t, r, signed(api.CPick, digits(base), 5), api.ErrClean)
	id := done(t, r, signed(api.CPick, "dev", 5)) // "12" hangs on "1", but not on "xy"
	comes(t, r, "", "a", "x", "b", "12")
	change := func(id api.Id) api.Id { return read(t, r, id).Commit.Changes[0] }
	if o := read(t, r, id).Commit; !slices.Equal(o.Parents, ids(base)) || !slices.Equal(o.Changes, order.Set(ids(change(second), change(third)))) || o.Message != "n5" || o.Stamp != 5 {
		t.Errorf("%+v", o)
	}
	if now := r.Refs(); now.Log[len(now.Log)-1] != (api.Entry{Update: api.Update{Kind: api.RBranch, Name: "main", Old: base, New: id}, Note: "n5"}) {
		t.Errorf("%+v", now.Log)
	}
	refused(t, r, signed(api.CPick, "dev", 6), api.ErrClean)
	merged := done(t, r, signed(api.CMerge, "dev", 6))
	comes(t, r, "", "a", "xy", "b", "12")
	refused(t, r, signed(api.CPick, digits(merged), 7), api.ErrClean) // it has no changes of its own
	moved(t, r, api.Update{Kind: api.RHead, Name: "new"})
	alone := done(t, r, signed(api.CPick, "dev", 8)) // upon nothing
	if o := read(t, r, alone).Commit; len(o.Parents) != 0 || len(o.Changes) != 2 {
		t.Errorf("%+v", o)
	}
	comes(t, r, "new", "b", "12")
	refused(t, r, signed(api.CMerge, "none", 9), api.ErrNone)
}

// P24.1: CPick of just as many changes as may be, and of one more.
func TestPickMany(t *testing.T) {
	r, _ := begun(t)
	first := commit(t, r, 1, "a", "x")
	var changes []api.Id
	var all []api.Object
	for n := range api.MaxChanges {
		all = append(all, creation(1+n, "p"+strconv.Itoa(n)))
	}
	changes = taken(t, r, all...)
	last := taken(t, r, creation(api.MaxTime, "last", changes[1:]...))
	tip := taken(t, r, joint(1, taken(t, r, joint(1, ids(first), changes)), last))
	moved(t, r, api.Update{Kind: api.RBranch, Name: "dev", New: tip[0]})
	id := done(t, r, signed(api.CPick, "dev", 5)) // but for changes[0]
	if o := read(t, r, id).Commit; len(o.Changes) != api.MaxChanges {
		t.Errorf("%d changes", len(o.Changes))
	}
	do(t, r, api.CSwitch, digits(first))
	more := taken(t, r, creation(api.MaxTime, "more", changes...))
	tip = taken(t, r, joint(1, tip, more))
	moved(t, r, api.Update{Kind: api.RBranch, Name: "more", New: tip[0]})
	refused(t, r, signed(api.CPick, "more", 6), api.ErrFull)
}

// P24.1: CBlame, CDiff, CStatus, CLog.
func TestTelling(t *testing.T) {
	r, _ := begun(t)
	lines(t, r, api.Command{Kind: api.CStatus, Files: files("a", "é")}, "add a 1") // upon nothing
	lines(t, r, api.Command{Kind: api.CStatus})
	first := commit(t, r, 4, "a", "hello\n", "d/e", "same", "k", "kept")
	second := done(t, r, api.Command{Kind: api.CCommit, Files: files("a", "hallo\n", "b", "x", "k", "kept"), Author: "Bob", Note: "b", Stamp: 2})
	change := func(id api.Id) api.Id { return read(t, r, id).Commit.Changes[0] }
	run := func(id api.Id, author, text string) api.Run {
		return api.Run{Change: change(id), Author: author, Text: text}
	}
	answers(t, r, named(api.CBlame, "", "a"), api.Answer{Id: second, Runs: []api.Run{run(first, "Ann", "h"), run(second, "Bob", "a"), run(first, "Ann", "llo\n")}})
	answers(t, r, named(api.CBlame, digits(first), "a"), api.Answer{Id: first, Runs: []api.Run{run(first, "Ann", "hello\n")}})
	refused(t, r, named(api.CBlame, "", "d/e"), api.ErrNone)
	refused(t, r, named(api.CBlame, "", ""), api.ErrNone)
	refused(t, r, named(api.CBlame, "nope", "a"), api.ErrNone)
	answers(t, r, named(api.CDiff, digits(first), "main"), api.Answer{Id: first, Lines: []string{"file a", "@ 0 0", "-hello", "+hallo", "file b added", "@ 0 0", `+x\`, "file d/e gone", "@ 0 0", `-same\`}})
	answers(t, r, named(api.CDiff, "", digits(first)), api.Answer{Id: second, Lines: []string{"file a", "@ 0 0", "-hallo", "+hello", "file b gone", "@ 0 0", `-x\`, "file d/e added", "@ 0 0", `+same\`}})
	answers(t, r, named(api.CDiff), api.Answer{Id: second})
	refused(t, r, named(api.CDiff, "nope", strings.Repeat("0", 64)), api.ErrNone)
	refused(t, r, named(api.CDiff, strings.Repeat("0", 64), "nope"), api.ErrMissing)
	lines(t, r, api.Command{Kind: api.CStatus, Files: files("d/e", "new", "c", "x", "k", "Kept")}, "gone a 6", "move b c 0", "add d/e 3", "edit k 2")
	refused(t, r, api.Command{Kind: api.CStatus, Files: files("a", "", "a", "")}, api.ErrThere)
	refused(t, r, api.Command{Kind: api.CStatus, Files: files("", "")}, api.ErrName)
	do(t, r, api.CBranch, "dev", digits(first))
	do(t, r, api.CSwitch, "dev")
	third := commit(t, r, 9, "a", "hello\n", "d/e", "same", "k", "kept", "new", "")
	fourth := done(t, r, signed(api.CMerge, "main", 1))
	line := func(id api.Id, rest string) string { return digits(id) + " " + rest }
	answers(t, r, named(api.CLog), api.Answer{Id: fourth, Lines: []string{line(fourth, "1 Ann n1"), line(third, "9 Ann n9"), line(second, "2 Bob b"), line(first, "4 Ann n4")}})
	answers(t, r, named(api.CLog, "main"), api.Answer{Id: second, Lines: []string{line(second, "2 Bob b"), line(first, "4 Ann n4")}})
}

// P24.1: the texts of documents that have grown too long by merging.
func TestLong(t *testing.T) {
	r, _ := begun(t)
	commit(t, r, 1, "a", "")
	do(t, r, api.CBranch, "dev")
	commit(t, r, 2, "a", strings.Repeat("\n", api.MaxFile))
	do(t, r, api.CSwitch, "dev")
	commit(t, r, 3, "a", strings.Repeat("\n", api.MaxFile-1)+"x")
	done(t, r, signed(api.CMerge, "main", 4))
	refused(t, r, named(api.CDiff, "", "main"), api.ErrLong)
	refused(t, r, api.Command{Kind: api.CStatus}, api.ErrLong)
	refused(t, r, api.Command{Kind: api.CCommit, Author: "Ann", Files: files("a", "")}, api.ErrLong)
	done(t, r, api.Command{Kind: api.CCommit, Author: "Ann"}) // it is gone
}

// P24.1: CGc lets go of what no root reaches; CRepack keeps all, upon bases by choices.
func TestKeep(t *testing.T) {
	r, d := begun(t)
	first := commit(t, r, 1, "a", "the one text that is told")
	second := commit(t, r, 2, "a", "the one text that is told again")
	stray := taken(t, r, creation(1, "stray"))[0]
	reach, e := r.Reach(ids(second))
	if e != api.OK || len(reach) != 4 {
		t.Fatalf("%d, %d", len(reach), e)
	}
	file := func(ids []api.Id, choices ...int) string {
		t.Helper()
		other := disk.New(ample)
		v, _ := vault.Open(other)
		for _, id := range ids {
			b, _ := r.Object(id)
			v.Put(b)
		}
		v.Keep(ids, choices)
		return strings.Join(other.List(), " ")
	}
	all := order.Union(reach, ids(stray))
	for _, choices := range [][]int{nil, {1}, {0, 1, 2}, {-1, -5, 7}} {
		answers(t, r, api.Command{Kind: api.CRepack, Choices: choices}, api.Answer{})
		if got, want := strings.Join(d.List(), " "), "journal "+file(all, choices...); got != want {
			t.Errorf("%v: %s; want %s", choices, got, want)
		}
	}
	answers(t, r, api.Command{Kind: api.CGc, Choices: []int{1}}, api.Answer{})
	if got, want := strings.Join(d.List(), " "), "journal "+file(reach); got != want {
		t.Errorf("%s; want %s", got, want)
	}
	if _, e := r.Object(stray); e != api.ErrMissing {
		t.Errorf("error %d", e)
	}
	do(t, r, api.CSwitch, digits(first))
	do(t, r, api.CDrop, "main")
	do(t, r, api.CGc) // the log is a root
	comes(t, r, digits(second), "a", "the one text that is told again")
	for range api.MaxReflog {
		do(t, r, api.CSwitch)
	}
	refused(t, r, named(api.CCheckout, digits(second)), api.ErrMissing)
	if _, e := r.Object(second); e != api.OK {
		t.Errorf("error %d", e)
	}
	do(t, r, api.CGc)
	if _, e := r.Object(second); e != api.ErrMissing {
		t.Errorf("error %d", e)
	}
	comes(t, r, "", "a", "the one text that is told")
	empty, d := begun(t)
	taken(t, empty, creation(1, "stray"))
	do(t, empty, api.CGc)
	if l := d.List(); len(l) != 0 {
		t.Errorf("%q", l)
	}
}

// P24.2: Known and Reach.
func TestReach(t *testing.T) {
	r, _ := begun(t)
	if set, e := r.Reach(nil); len(set) != 0 || e != api.OK {
		t.Errorf("%v, %d", set, e)
	}
	first := commit(t, r, 1, "a", "1")
	second := commit(t, r, 2, "a", "2")
	do(t, r, api.CSwitch, digits(first))
	third := commit(t, r, 3, "a", "3")
	both := done(t, r, signed(api.CMerge, "main", 4))
	change := func(id api.Id) api.Id { return read(t, r, id).Commit.Changes[0] }
	stray := taken(t, r, joint(1, ids(both), nil))[0]
	for id, want := range map[api.Id]bool{first: true, second: true, third: true, both: true, stray: false, change(first): false, {}: false, {1}: false} {
		if r.Known(id) != want {
			t.Errorf("%x", id)
		}
		if set, e := r.Reach(ids(first, id)); !want && (e != api.ErrMissing || len(set) != 0) {
			t.Errorf("%x: %v, %d", id, set, e)
		}
	}
	for _, c := range []struct{ of, want []api.Id }{
		{ids(first), ids(first, change(first))},
		{ids(third, third), ids(first, third, change(first), change(third))},
		{ids(second, third), ids(first, second, third, change(first), change(second), change(third))},
		{ids(both, first), ids(first, second, third, both, change(first), change(second), change(third))},
	} {
		if set, e := r.Reach(c.of); e != api.OK || !slices.Equal(set, order.Set(c.want)) {
			t.Errorf("%x: %x, %d", c.of, set, e)
		}
	}
	want, _ := object.Encode(read(t, r, both))
	if b, e := r.Object(both); e != api.OK || !slices.Equal(b, want) {
		t.Errorf("%q, %d", b, e)
	}
	if b, e := r.Object(api.Id{1}); e != api.ErrMissing || len(b) != 0 {
		t.Errorf("%q, %d", b, e)
	}
	junk := disk.New(ample)
	v, _ := vault.Open(junk)
	id, _, _ := v.Put([]byte("no object")) // Object asks for none
	if b, e := opened(t, junk).Object(id); e != api.OK || string(b) != "no object" {
		t.Errorf("%q, %d", b, e)
	}
}

// P24.3: Past, of commits that are not known, too.
func TestPast(t *testing.T) {
	r, _ := begun(t)
	first := commit(t, r, 1, "a", "1")
	second := commit(t, r, 2, "a", "2")
	do(t, r, api.CSwitch, digits(first))
	third := commit(t, r, 3, "a", "3")
	stray := taken(t, r, joint(1, ids(second, third), nil))[0]
	for id, want := range map[api.Id][]api.Id{first: ids(first), second: ids(first, second), third: ids(first, third), stray: ids(first, second, third, stray)} {
		if set, e := r.Past(id); e != api.OK || !slices.Equal(set, order.Set(want)) {
			t.Errorf("%x: %x, %d", id, set, e)
		}
	}
	for _, id := range []api.Id{{}, {1}, read(t, r, first).Commit.Changes[0], taken(t, r, joint(1, ids(api.Id{1}), nil))[0]} {
		if set, e := r.Past(id); e != api.ErrForm || len(set) != 0 {
			t.Errorf("%x: %x, %d", id, set, e)
		}
	}
}

// P24.3: Bundle: what is in it, upon which bases; Unbundle of it.
func TestBundle(t *testing.T) {
	r, _ := begun(t)
	first := commit(t, r, 1, "a", "the text that all of them begin with")
	second := commit(t, r, 2, "a", "the text that all of them begin with, and more")
	do(t, r, api.CSwitch, digits(first))
	third := commit(t, r, 3, "a", "the text that all of them begin with, or not")
	stray := taken(t, r, joint(7, ids(first), nil))[0]
	reach := func(l ...api.Id) []api.Id {
		set, e := r.Reach(l)
		if e != api.OK {
			t.Fatal(e)
		}
		return set
	}
	for _, c := range []struct{ wants, haves, want []api.Id }{
		{nil, nil, nil},
		{ids(first), nil, reach(first)},
		{ids(second, third, second), ids(first, first), order.Minus(reach(second, third), reach(first))},
		{ids(second), ids(third), order.Minus(reach(second), reach(first))},
		{ids(first), ids(second), nil},
		{ids(first), ids(stray, api.Id{}, api.Id{9}, read(t, r, first).Commit.Changes[0]), reach(first)}, // none of them is known
		{ids(first, second), ids(stray, third), order.Minus(reach(second), reach(first))},
	} {
		for _, choices := range [][]int{nil, {1}, {0, 1, 2}, {-1, 3}} {
			b, e := r.Bundle(c.wants, c.haves, choices)
			p, f := pack.Open(b)
			if e != api.OK || f != api.OK || !slices.Equal(p.Ids(), order.Set(c.want)) {
				t.Fatalf("%x but %x: %d, %d", c.wants, c.haves, e, f)
			}
			var parts []pack.Part
			var sizes []int
			for _, id := range order.Set(c.want) {
				b, _ := r.Object(id)
				parts, sizes = append(parts, pack.Part{Bytes: b}), append(sizes, len(b))
			}
			_, bases := vault.Plan(sizes, choices)
			for i := range parts {
				parts[i].Base = bases[i]
			}
			if want, _ := pack.Build(parts); !slices.Equal(b, want) {
				t.Errorf("%x but %x, %v: another pack", c.wants, c.haves, choices)
			}
			other, _ := begun(t)
			answers, f := other.Unbundle(b), api.OK
			if !same(answers, api.Answer{}) {
				t.Errorf("%+v", answers)
			}
			for _, id := range c.want {
				if _, e := other.Object(id); e != api.OK {
					f = e
				}
			}
			if f != api.OK || !reflect.DeepEqual(other.Refs(), refs.Begin()) {
				t.Errorf("%x but %x: error %d", c.wants, c.haves, f)
			}
		}
	}
	for _, id := range []api.Id{stray, {}, {9}, read(t, r, first).Commit.Changes[0]} {
		if b, e := r.Bundle(ids(first, id), nil, nil); e != api.ErrMissing || len(b) != 0 {
			t.Errorf("%x: error %d", id, e)
		}
	}
}

// P24.3: Bundle of more than one of Plan's packs, and of more than a pack may have.
func TestBundleMany(t *testing.T) {
	r, _ := begun(t)
	var changes []api.Id
	var all []api.Object
	for n := range 1500 {
		all = append(all, creation(1+n, "p"+strconv.Itoa(n)))
	}
	changes = taken(t, r, all...)
	tip := taken(t, r, joint(1, nil, changes))
	moved(t, r, api.Update{Kind: api.RBranch, Name: "main", New: tip[0]})
	b, e := r.Bundle(tip, nil, []int{-1})
	p, f := pack.Open(b)
	if e != api.OK || f != api.OK || p.Len() != 1501 {
		t.Fatalf("%d, %d", e, f)
	}
	set := p.Ids()
	for i, id := range set { // each upon the one ahead, till the chain is too long, or Plan's next pack begins
		want := i % 1024 % (api.MaxChain + 1)
		if n, e := p.Depth(id); e != api.OK || n != want {
			t.Fatalf("%d: depth %d, error %d; want %d", i, n, e, want)
		}
	}
	var parts []pack.Part
	var sizes []int
	for _, id := range set {
		b, _ := r.Object(id)
		parts, sizes = append(parts, pack.Part{Bytes: b}), append(sizes, len(b))
	}
	_, bases := vault.Plan(sizes, []int{5, -1, 0, 700, -2})
	for i, base := range bases {
		parts[i].Base = base
		if base >= 0 && i >= 1024 {
			parts[i].Base += 1024
		}
	}
	want, _ := pack.Build(parts)
	if b, e := r.Bundle(tip, nil, []int{5, -1, 0, 700, -2}); e != api.OK || !slices.Equal(b, want) {
		t.Errorf("another pack, error %d", e)
	}
	great := func(n int) api.Object {
		var ops []api.Op
		for i := range 60 {
			ops = append(ops, api.Op{Kind: api.OCreate, Path: strconv.Itoa(n) + "/" + strconv.Itoa(i)}, api.Op{Kind: api.OInsert, Doc: api.Ref{Index: i * 4097}, At: api.Ref{Index: i * 4097}, Text: noise(n*60+i, 4096)})
		}
		return api.Object{Kind: api.KChange, Change: api.Change{Time: 1, Author: "Bob", Ops: ops}}
	}
	var too []api.Id
	for n := range 5 {
		too = append(too, taken(t, r, great(n))...)
	}
	tip = taken(t, r, joint(1, nil, too))
	moved(t, r, api.Update{Kind: api.RBranch, Name: "great", New: tip[0]})
	if b, e := r.Bundle(tip, nil, nil); e != api.ErrLong || len(b) != 0 {
		t.Errorf("%d bytes, error %d", len(b), e)
	}
	do(t, r, api.CGc)
	if a := r.Do(named(api.CCheckout, "great")); a.Error != api.OK || len(a.Files) != 300 {
		t.Errorf("%d files, error %d", len(a.Files), a.Error)
	}
}

// noise is letters that no rule tells.
func noise(seed, n int) string {
	b := make([]byte, n)
	x := uint32(seed)*2654435761 + 1
	for i := range b {
		x = x*1664525 + 1013904223
		b[i] = 'a' + byte(x>>24)%26
	}
	return string(b)
}

// P24.3: Unbundle and Take: what may not be changes nothing.
func TestTake(t *testing.T) {
	r, d := begun(t)
	commit(t, r, 1, "a", "1")
	good, _ := object.Encode(creation(1, "x"))
	other, _ := object.Encode(creation(1, "y"))
	long := make([]byte, api.MaxObject+1)
	before := d.List()
	for _, c := range []struct {
		all [][]byte
		e   api.Errno
	}{
		{[][]byte{good, nil}, api.ErrForm},
		{[][]byte{good, []byte("no object"), long}, api.ErrForm},
		{[][]byte{long, nil}, api.ErrLong},
		{[][]byte{good, other, append(slices.Clone(good), 0)}, api.ErrForm},
	} {
		if a := r.Take(c.all); !same(a, api.Answer{Error: c.e}) || !slices.Equal(d.List(), before) {
			t.Errorf("%.80q: %+v, %q", c.all, a, d.List())
		}
		var parts []pack.Part
		for _, b := range c.all {
			parts = append(parts, pack.Part{Bytes: b, Base: -1})
		}
		b, _ := pack.Build(parts)
		if a := r.Unbundle(b); (len(b) > 0 && !same(a, api.Answer{Error: c.e})) || a.Error == api.OK || !slices.Equal(d.List(), before) {
			t.Errorf("%.80q: %+v, %q", c.all, a, d.List())
		}
	}
	b, _ := pack.Build([]pack.Part{{Bytes: good, Base: -1}})
	spoilt := slices.Clone(b)
	spoilt[5]++
	for e, b := range map[api.Errno][]byte{api.ErrForm: nil, api.ErrSum: spoilt, api.ErrLong: make([]byte, api.MaxPack+1)} {
		if a := r.Unbundle(b); !same(a, api.Answer{Error: e}) {
			t.Errorf("%+v; want %d", a, e)
		}
	}
	if a := r.Take([][]byte{good, other, good}); !same(a, api.Answer{}) || len(d.List()) != len(before)+2 {
		t.Errorf("%+v, %q", a, d.List())
	}
	for _, all := range [][][]byte{nil, {good}} {
		if a := r.Take(all); !same(a, api.Answer{}) {
			t.Errorf("%+v", a)
		}
	}
}

// P24.3: Take without room: what was put ahead may be there, and nothing else is changed.
func TestTakeNoSpace(t *testing.T) {
	d := disk.New(400)
	r := opened(t, d)
	first := commit(t, r, 1, "a", "1")
	refs := r.Refs()
	small, _ := object.Encode(creation(1, "x"))
	great, _ := object.Encode(joint(1, nil, ids(api.Id{1}, api.Id{2}, api.Id{3}, api.Id{4}, api.Id{5}, api.Id{6}, api.Id{7}, api.Id{8}, api.Id{9})))
	if a := r.Take([][]byte{small, great}); !same(a, api.Answer{Error: api.ErrNoSpace}) || d.Refused() != 1 {
		t.Errorf("%+v, %d", a, d.Refused())
	}
	a := r.Do(api.Command{Kind: api.CCommit, Files: files("a", strings.Repeat("x", 300)), Author: "Ann"})
	if !same(a, api.Answer{Error: api.ErrNoSpace}) || !reflect.DeepEqual(r.Refs(), refs) {
		t.Errorf("%+v, %+v", a, r.Refs())
	}
	comes(t, r, digits(first), "a", "1")
	if a := r.Do(named(api.CGc)); !same(a, api.Answer{Error: api.ErrNoSpace}) { // a pack has more than that
		t.Errorf("%+v", a)
	}
	r = opened(t, d)
	comes(t, r, "main", "a", "1")
	if !reflect.DeepEqual(r.Refs(), refs) {
		t.Errorf("%+v", r.Refs())
	}
}

// P24.3: Move: what is not whole may not come into the refs; Apply's errors.
func TestMove(t *testing.T) {
	r, _ := begun(t)
	first := commit(t, r, 1, "a", "1")
	change := read(t, r, first).Commit.Changes[0]
	missing := taken(t, r, joint(1, ids(api.Id{7}), nil))[0]
	stray := taken(t, r, joint(1, ids(first), nil))[0]
	to := func(kind uint8, name string, old, new api.Id) api.Update {
		return api.Update{Kind: kind, Name: name, Old: old, New: new}
	}
	ahead := r.Refs()
	for _, c := range []struct {
		l []api.Update
		e api.Errno
	}{
		{[]api.Update{to(api.RBranch, "x", api.Id{}, api.Id{7})}, api.ErrForm},
		{[]api.Update{to(api.RBranch, "x", api.Id{}, change)}, api.ErrForm},
		{[]api.Update{to(api.RTag, "x", api.Id{}, missing)}, api.ErrForm},
		{[]api.Update{to(api.RHead, "", api.Id{}, missing)}, api.ErrForm},
		{[]api.Update{to(9, "", api.Id{}, api.Id{}), to(api.RBranch, "main", api.Id{9}, missing)}, api.ErrForm}, // ahead of Apply's
		{[]api.Update{to(9, "", api.Id{}, api.Id{})}, api.ErrArg},
		{[]api.Update{to(api.RBranch, "x", api.Id{}, stray), to(api.RBranch, "main", stray, first)}, api.ErrMoved},
		{[]api.Update{to(api.RBranch, ".x", api.Id{}, stray)}, api.ErrName},
		{[]api.Update{to(api.RBranch, "main", first, api.Id{})}, api.ErrHead},
		{[]api.Update{to(api.RHead, "x", api.Id{}, first)}, api.ErrArg},
	} {
		if e := r.Move(c.l, "m"); e != c.e || !reflect.DeepEqual(r.Refs(), ahead) {
			t.Errorf("%+v: error %d; want %d", c.l, e, c.e)
		}
	}
	if e := r.Move(nil, "\xff"); e != api.ErrArg {
		t.Errorf("error %d", e)
	}
	if e := r.Move(nil, ""); e != api.OK || !reflect.DeepEqual(r.Refs(), ahead) {
		t.Errorf("error %d", e)
	}
	l := []api.Update{to(api.RBranch, "main", first, stray), to(api.RTag, "v", api.Id{}, first), to(api.RHead, "new", api.Id{}, api.Id{}), to(api.RBranch, "main", stray, api.Id{})}
	want, e := refs.Apply(ahead, l, "note")
	if f := r.Move(l, "note"); e != api.OK || f != api.OK || !reflect.DeepEqual(r.Refs(), want) {
		t.Errorf("error %d, %+v; want %+v", f, r.Refs(), want)
	}
	if !r.Known(stray) { // by the log
		t.Error("stray")
	}
}

// P24.4: a nil repository.
func TestNil(t *testing.T) {
	var r *repo.Repo
	for kind := range api.CRepack + 2 {
		answers(t, r, api.Command{Kind: kind, Stamp: -1}, api.Answer{Error: api.ErrArg})
	}
	if !reflect.DeepEqual(r.Refs(), refs.Refs{}) || r.Known(api.Id{}) {
		t.Error("a nil repository has something")
	}
	if set, e := r.Reach(nil); len(set) != 0 || e != api.ErrArg {
		t.Errorf("%v, %d", set, e)
	}
	if b, e := r.Object(api.Id{}); len(b) != 0 || e != api.ErrArg {
		t.Errorf("%v, %d", b, e)
	}
	if set, e := r.Past(api.Id{}); len(set) != 0 || e != api.ErrArg {
		t.Errorf("%v, %d", set, e)
	}
	if b, e := r.Bundle(ids(api.Id{}), nil, nil); len(b) != 0 || e != api.ErrArg {
		t.Errorf("%v, %d", b, e)
	}
	for _, a := range []api.Answer{r.Unbundle(nil), r.Take(nil), r.Take([][]byte{nil})} {
		if !same(a, api.Answer{Error: api.ErrArg}) {
			t.Errorf("%+v", a)
		}
	}
	if e := r.Move([]api.Update{{New: api.Id{1}}}, ""); e != api.ErrArg {
		t.Errorf("%d", e)
	}
}

// R4: what is handed in is neither changed nor kept; what is handed out is new.
func TestMemory(t *testing.T) {
	r, _ := begun(t)
	room := files("a", "x", "room", "y")
	moves := [][2]string{{"q", "q"}}
	id := done(t, r, api.Command{Kind: api.CCommit, Files: room[:1], Moves: moves[:0], Author: "Ann"})
	if room[1].Path != "room" || moves[0] != [2]string{"q", "q"} {
		t.Errorf("%q, %q", room, moves)
	}
	clear(room)
	comes(t, r, "", "a", "x")
	for range 2 {
		now := r.Refs()
		clear(append(now.Branches, refs.Named{}))
		clear(now.Log)
		clear(r.Do(named(api.CCheckout)).Files)
		clear(r.Do(named(api.CBlame, "", "a")).Runs)
		clear(r.Do(named(api.CRefs)).Lines)
		b, _ := r.Object(id)
		all := [][]byte{b}
		r.Take(all)
		clear(b)
		set, _ := r.Reach(ids(id))
		clear(set)
		wants, haves := ids(id, api.Id{1}), ids(api.Id{2}, id, api.Id{3})
		pack, _ := r.Bundle(wants[:1], haves[:1], nil)
		r.Unbundle(pack)
		clear(pack)
		if wants[1] != (api.Id{1}) || !slices.Equal(haves, ids(api.Id{2}, id, api.Id{3})) {
			t.Errorf("%x, %x", wants, haves)
		}
		if past, _ := r.Past(id); !slices.Equal(past, ids(id)) {
			t.Errorf("%x", past)
		}
	}
	comes(t, r, "", "a", "x")
	lines(t, r, named(api.CRefs), "head main", "branch main "+digits(id))
}
