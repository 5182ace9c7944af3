package session_test

import (
	"crypto/sha256"
	"encoding/hex"
	"reflect"
	"slices"
	"strconv"
	"strings"
	"testing"

	"variorum/api"
	"variorum/disk"
	"variorum/leb"
	"variorum/object"
	"variorum/order"
	"variorum/pack"
	"variorum/repo"
	"variorum/session"
	"variorum/wire"
)

// ample is a quota that nothing here comes up to.
const ample = 1 << 28

// begun is a repository without anything, on a disk of its own.
func begun(t *testing.T, quota int) *repo.Repo {
	t.Helper()
	r, e := repo.Open(disk.New(quota))
	if e != api.OK {
		t.Fatalf("Open: error %d", e)
	}
	return r
}

// done fails, if a command has an error. It tells the answer's id.
func done(t *testing.T, r *repo.Repo, c api.Command) api.Id {
	t.Helper()
	c.Author = "Ann"
	a := r.Do(c)
	if a.Error != api.OK {
		t.Fatalf("command %d %q: error %d", c.Kind, c.Name, a.Error)
	}
	return a.Id
}

// commit commits a text in the file a.
func commit(t *testing.T, r *repo.Repo, text string) api.Id {
	t.Helper()
	return done(t, r, api.Command{Kind: api.CCommit, Files: []api.File{{Path: "a", Bytes: text}}, Note: "n"})
}

// do does a command of names alone.
func do(t *testing.T, r *repo.Repo, kind uint8, names ...string) api.Id {
	t.Helper()
	names = append(names, "", "")
	return done(t, r, api.Command{Kind: kind, Name: names[0], Other: names[1]})
}

// shown fails, unless what a name is at has that text in the file a.
func shown(t *testing.T, r *repo.Repo, name, want string) {
	t.Helper()
	a := r.Do(api.Command{Kind: api.CCheckout, Name: name})
	if !slices.Equal(a.Files, []api.File{{Path: "a", Bytes: want}}) {
		t.Errorf("%q: %q, error %d; want %q", name, a.Files, a.Error, want)
	}
}

func digits(id api.Id) string { return hex.EncodeToString(id[:]) }

func ids(l ...api.Id) []api.Id { return order.Set(l) }

func branch(name string, id api.Id) api.Update {
	return api.Update{Kind: api.RBranch, Name: name, New: id}
}

func tag(name string, id api.Id) api.Update { return api.Update{Kind: api.RTag, Name: name, New: id} }

// told is what is told of all branches and tags.
func told(r *repo.Repo) []api.Update { return wire.Of(r.Refs()) }

// moved does updates that must go well.
func moved(t *testing.T, r *repo.Repo, l ...api.Update) {
	t.Helper()
	if e := r.Move(l, "moved"); e != api.OK {
		t.Fatalf("%v: error %d", l, e)
	}
}

// full gives a repository branches till it has 64 of them.
func full(t *testing.T, r *repo.Repo, at api.Id) {
	t.Helper()
	for i := len(r.Refs().Branches); i < api.MaxRefs; i++ {
		moved(t, r, branch("full-"+strconv.Itoa(i), at))
	}
}

// bytes is a message's bytes.
func bytes(t *testing.T, m api.Message) []byte {
	t.Helper()
	b, e := wire.Encode(m)
	if e != api.OK {
		t.Fatalf("%+v may not be", m)
	}
	return b
}

// read is the message that some bytes are; a zero one, if there are none.
func read(t *testing.T, b []byte) api.Message {
	t.Helper()
	if b == nil {
		return api.Message{}
	}
	m, e := wire.Decode(b)
	if e != api.OK {
		t.Fatalf("%q is no message", b)
	}
	return m
}

// is fails, unless some bytes are a message (zero: there are none).
func is(t *testing.T, b []byte, want api.Message) {
	t.Helper()
	var none []byte
	if want.Kind != 0 {
		none = bytes(t, want)
	}
	if !slices.Equal(b, none) || want.Kind == 0 && b != nil {
		t.Fatalf("%+v; want %+v", read(t, b), want)
	}
}

// answers fails, unless a server answers a message with another one.
func answers(t *testing.T, s *session.Server, m, want api.Message) {
	t.Helper()
	is(t, s.Hear(bytes(t, m)), want)
}

// What is sent in sessions here, most times.
func hello(n int) api.Message { return api.Message{Kind: api.MHello, Session: n} }

func asks(n, at int) api.Message { return api.Message{Kind: api.MAsk, Session: n, At: at} }

func ends(n int, code api.Errno) api.Message {
	return api.Message{Kind: api.MDone, Session: n, Code: code}
}

func head(n int, b []byte) api.Message {
	return api.Message{Kind: api.MHead, Session: n, Size: len(b), Id: sha256.Sum256(b)}
}

func piece(n int, b []byte, at int) api.Message {
	return api.Message{Kind: api.MPiece, Session: n, At: at, Bytes: b[at:min(len(b), at+256)]}
}

// bundle is the pack of all that commits reach.
func bundle(t *testing.T, r *repo.Repo, wants ...api.Id) []byte {
	t.Helper()
	return bundled(t, r, wants, nil, nil)
}

func bundled(t *testing.T, r *repo.Repo, wants, haves []api.Id, choices []int) []byte {
	t.Helper()
	b, e := r.Bundle(wants, haves, choices)
	if e != api.OK {
		t.Fatalf("Bundle: error %d", e)
	}
	return b
}

// pushOf is the message that offers a pack.
func pushOf(n int, b []byte, name string, from, to api.Id, force bool) api.Message {
	return api.Message{Kind: api.MPush, Session: n, Name: name, Old: from, New: to, Force: force, Size: len(b), Id: sha256.Sum256(b)}
}

// packed is the pack of any byte strings.
func packed(t *testing.T, all ...[]byte) []byte {
	t.Helper()
	var parts []pack.Part
	for _, b := range all {
		parts = append(parts, pack.Part{Bytes: b, Base: -1})
	}
	b, e := pack.Build(parts)
	if e != api.OK {
		t.Fatalf("Build: error %d", e)
	}
	return b
}

// row is an object of a pack as it is told: by its bytes, or by a delta upon a base.
type row struct {
	id, base api.Id
	upon     bool
	bytes    []byte
}

// forged is a pack with just these objects, in order of their ids, whatever is told of them.
func forged(rows ...row) []byte {
	b := []byte{'P', byte(len(rows))}
	word := func(n int) []byte { return []byte{byte(n >> 24), byte(n >> 16), byte(n >> 8), byte(n)} }
	var places []int
	for _, one := range rows {
		places = append(places, len(b))
		if one.upon {
			b = append(append(b, 1), one.base[:]...)
		} else {
			b = append(b, 0)
		}
		b = leb.PutText(b, string(one.bytes))
	}
	fan := len(b)
	for first := range 256 {
		n := 0
		for _, one := range rows {
			if int(one.id[0]) <= first {
				n++
			}
		}
		b = append(b, word(n)...)
	}
	for i, one := range rows {
		b = append(append(b, one.id[:]...), word(places[i])...)
	}
	b = append(b, word(fan)...)
	sum := sha256.Sum256(b)
	return append(b, sum[:]...)
}

// bad is bytes, and the error that Unbundle has of them.
type bad struct {
	bytes []byte
	e     api.Errno
}

// noPacks is bytes that no client, no server takes, for each error that these have.
func noPacks(t *testing.T) []bad {
	t.Helper()
	small := packed(t, []byte("none"))
	spoilt := slices.Clone(small)
	spoilt[5]++
	round := forged(row{id: api.Id{7}, base: api.Id{7}, upon: true, bytes: []byte{0, 0}})
	base := make([]byte, api.MaxObject)
	all := []row{{id: sha256.Sum256(base), bytes: base}}
	for i := range 16 { // each has but its last byte of its own
		b := slices.Clone(base)
		b[len(b)-1] = byte(i + 1)
		var d []byte
		for _, n := range []int{len(base), len(base), 2*(len(base)-1) + 1, 0, 2} {
			d, _ = leb.Put(d, n)
		}
		all = append(all, row{id: sha256.Sum256(b), base: all[0].id, upon: true, bytes: append(d, byte(i+1))})
	}
	slices.SortFunc(all, func(a, b row) int { return order.Compare(a.id, b.id) })
	return []bad{{small, api.ErrForm}, {small[:35], api.ErrForm}, {spoilt, api.ErrSum}, {round, api.ErrDeep}, {forged(all...), api.ErrLong}}
}

// gap is objects of which part, a commit, is not whole, but is in the past of another one that is.
func gap(t *testing.T) (all [][]byte, part, whole api.Id) {
	t.Helper()
	put := func(o api.Object) api.Id {
		b, e := object.Encode(o)
		if e != api.OK {
			t.Fatalf("%+v: error %d", o, e)
		}
		all = append(all, b)
		return sha256.Sum256(b)
	}
	creation := func(time int, deps ...api.Id) api.Object {
		return api.Object{Kind: api.KChange, Change: api.Change{Time: time, Deps: deps, Author: "Bob", Ops: []api.Op{{Kind: api.OCreate, Path: "p" + strconv.Itoa(time)}}}}
	}
	joint := func(parents, changes []api.Id) api.Object {
		return api.Object{Kind: api.KCommit, Commit: api.Commit{Parents: parents, Changes: changes, Author: "Bob", Message: "m"}}
	}
	one := put(creation(1))
	two := put(creation(2, one))
	part = put(joint(nil, ids(two)))
	whole = put(joint(ids(part), ids(one)))
	return all, part, whole
}

// P26.1: a nil server, a nil client; and which ones are nil.
func TestNil(t *testing.T) {
	r := begun(t, ample)
	if session.Serve(nil, nil) != nil || session.Serve(r, nil) == nil {
		t.Error("Serve")
	}
	for _, n := range []int{-1, 1 << 31, -1 << 63, 1<<63 - 1} {
		if session.Fetch(r, n, "") != nil || session.Push(r, n, "main", false, nil) != nil {
			t.Errorf("session %d", n)
		}
	}
	if session.Fetch(nil, 1, "") != nil || session.Push(nil, 1, "main", true, nil) != nil {
		t.Error("no repository")
	}
	for _, n := range []int{0, 1<<31 - 1} {
		for _, c := range []*session.Client{session.Fetch(r, n, ""), session.Push(r, n, "", false, nil)} {
			is(t, c.Say(), hello(n))
			open(t, c)
		}
	}
	var s *session.Server
	is(t, s.Hear(bytes(t, hello(1))), api.Message{})
	is(t, s.Hear(nil), api.Message{})
	var c *session.Client
	c.Hear(bytes(t, hello(1)))
	c.Hear(nil)
	is(t, c.Say(), api.Message{})
	open(t, c)
}

// P26.1: what a server does not answer.
func TestServerUnanswered(t *testing.T) {
	r := begun(t, ample)
	id := commit(t, r, "x")
	s := session.Serve(r, nil)
	for _, b := range [][]byte{nil, {}, {1}, {1, 0, 0}, {0, 0}, {9, 0}, []byte("none")} {
		is(t, s.Hear(b), api.Message{})
	}
	for _, m := range []api.Message{{Kind: api.MRefs}, {Kind: api.MRefs, Refs: []api.Update{branch("x", id)}}, head(1, []byte("x")), ends(1, api.OK), ends(1, api.ErrState)} {
		answers(t, s, m, api.Message{})
	}
	if l := told(r); !slices.Equal(l, []api.Update{branch("main", id)}) {
		t.Errorf("%v", l)
	}
}

// P26.1: MHello, as the refs are each time.
func TestServerHello(t *testing.T) {
	r := begun(t, ample)
	s := session.Serve(r, nil)
	answers(t, s, hello(3), api.Message{Kind: api.MRefs, Session: 3})
	first := commit(t, r, "x")
	do(t, r, api.CTag, "v1")
	do(t, r, api.CTag, "main")
	do(t, r, api.CBranch, "dev")
	second := commit(t, r, "xy")
	want := []api.Update{branch("dev", first), branch("main", second), tag("main", first), tag("v1", first)}
	for _, n := range []int{0, 3, 1<<31 - 1} {
		answers(t, s, hello(n), api.Message{Kind: api.MRefs, Session: n, Refs: want})
	}
	do(t, r, api.CSwitch, digits(first))
	do(t, r, api.CDrop, "main")
	do(t, r, api.CDrop, "dev")
	answers(t, s, hello(3), api.Message{Kind: api.MRefs, Session: 3, Refs: want[2:]})
}

// P26.1: MWant and MAsk: a pack goes out, of which each place can be asked for, again and again, whatever becomes of the repository.
func TestServerWant(t *testing.T) {
	r := begun(t, ample)
	first := commit(t, r, strings.Repeat("one ", 100))
	second := commit(t, r, strings.Repeat("two ", 100))
	choices := []int{1, 2}
	s := session.Serve(r, choices)
	choices[0] = 7
	want := func(n int, wants, haves []api.Id) api.Message {
		return api.Message{Kind: api.MWant, Session: n, Wants: wants, Haves: haves}
	}
	answers(t, s, asks(1, 0), ends(1, api.ErrState))
	answers(t, s, want(1, ids(api.Id{1}), nil), ends(1, api.ErrMissing))
	answers(t, s, want(1, ids(second, api.Id{1}), nil), ends(1, api.ErrMissing))
	answers(t, s, asks(1, 0), ends(1, api.ErrState))
	all := bundled(t, r, ids(second), nil, []int{1, 2})
	if reflect.DeepEqual(all, bundle(t, r, second)) {
		t.Fatal("the choices make no difference")
	}
	answers(t, s, want(1, ids(second), nil), head(1, all))
	answers(t, s, asks(2, 0), ends(2, api.ErrState)) // another session
	answers(t, s, want(2, nil, nil), head(2, bundle(t, r)))
	goes := func(n int, b []byte) {
		t.Helper()
		for _, at := range []int{0, 1, 255, 256, 257, len(b) - 257, len(b) - 256, len(b) - 255, len(b) - 1} {
			answers(t, s, asks(n, at), piece(n, b, at))
			answers(t, s, asks(n, at), piece(n, b, at))
		}
		for _, at := range []int{len(b), len(b) + 1, 1 << 20} {
			answers(t, s, asks(n, at), ends(n, api.ErrArg))
		}
	}
	goes(1, all)
	goes(2, bundle(t, r))
	do(t, r, api.CSwitch, digits(first))
	do(t, r, api.CGc)
	goes(1, all)
	answers(t, s, want(1, ids(api.Id{1}), nil), ends(1, api.ErrMissing)) // the pack goes out all the same
	goes(1, all)
	some := bundled(t, r, ids(second), ids(first), []int{1, 2})
	answers(t, s, want(1, ids(second), ids(first, api.Id{1})), head(1, some))
	goes(1, some)
	answers(t, s, hello(1), api.Message{Kind: api.MRefs, Session: 1, Refs: told(r)})
	goes(1, some)
	goes(2, bundle(t, r))
}

// P26.1: MWant's other errors.
func TestServerWantErrors(t *testing.T) {
	r := begun(t, ample)
	all, part, whole := gap(t)
	r.Take(all)
	moved(t, r, branch("dev", whole))
	s := session.Serve(r, nil)
	answers(t, s, api.Message{Kind: api.MWant, Wants: ids(part)}, ends(0, api.ErrForm))
	answers(t, s, api.Message{Kind: api.MWant, Wants: ids(whole), Haves: ids(part)}, ends(0, api.ErrForm))
	answers(t, s, api.Message{Kind: api.MWant, Wants: ids(whole)}, head(0, bundle(t, r, whole)))
	big := great(t)
	answers(t, session.Serve(big, nil), api.Message{Kind: api.MWant, Wants: ids(do(t, big, api.CCheckout))}, ends(0, api.ErrLong))
}

// great is a repository that no pack can hold.
func great(t *testing.T) *repo.Repo {
	t.Helper()
	r := begun(t, ample)
	for i := range 5 {
		var files []api.File
		for k := range 60 {
			files = append(files, api.File{Path: strconv.Itoa(100*i + k), Bytes: strings.Repeat(strconv.Itoa(100*i+k)+" ", 4096)[:4096]})
		}
		done(t, r, api.Command{Kind: api.CCommit, Files: files})
	}
	return r
}

// pushed is a server's repository, and another one that is ahead of it by a commit.
func pushed(t *testing.T) (theirs, own *repo.Repo, first, second api.Id) {
	t.Helper()
	theirs, own = begun(t, ample), begun(t, ample)
	first = commit(t, theirs, "x")
	commit(t, own, "x")
	second = commit(t, own, strings.Repeat("y", 600))
	return theirs, own, first, second
}

// P26.1: MPush and MPiece: a push comes in piece by piece, is taken up where it was, or begins anew, where it is another one.
func TestServerPush(t *testing.T) {
	theirs, own, first, second := pushed(t)
	s := session.Serve(theirs, nil)
	b := bundled(t, own, ids(second), ids(first), nil)
	m := pushOf(4, b, "main", first, second, false)
	answers(t, s, piece(4, b, 0), ends(4, api.ErrState))
	answers(t, s, m, asks(4, 0))
	answers(t, s, piece(4, b, 256), asks(4, 0))
	answers(t, s, piece(4, b, 1), asks(4, 0))
	answers(t, s, piece(4, b, 0), asks(4, 256))
	answers(t, s, piece(4, b, 0), asks(4, 256))
	answers(t, s, piece(5, b, 256), ends(5, api.ErrState)) // another session
	answers(t, s, m, asks(4, 256))
	answers(t, s, hello(4), api.Message{Kind: api.MRefs, Session: 4, Refs: []api.Update{branch("main", first)}})
	answers(t, s, asks(4, 0), ends(4, api.ErrState))
	answers(t, s, m, asks(4, 256))
	for _, change := range []func(m *api.Message){
		func(m *api.Message) { m.Name = "dev" },
		func(m *api.Message) { m.Old = api.Id{} },
		func(m *api.Message) { m.New = first },
		func(m *api.Message) { m.Force = true },
		func(m *api.Message) { m.Size++ },
		func(m *api.Message) { m.Id = api.Id{1} },
	} {
		other := m
		change(&other)
		answers(t, s, other, asks(4, 0))
		answers(t, s, piece(4, b, 0), asks(4, 256))
		answers(t, s, m, asks(4, 0))
		answers(t, s, piece(4, b, 0), asks(4, 256))
	}
	session5 := m
	session5.Session = 5
	answers(t, s, session5, asks(5, 0)) // both come in, each for itself
	answers(t, s, m, asks(4, 256))
	answers(t, s, api.Message{Kind: api.MPiece, Session: 4, At: 256, Bytes: b[256:257]}, asks(4, 257)) // pieces of any length
	last := len(b) - 200
	for at := 257; at < last; at += 256 {
		answers(t, s, piece(4, b[:last], at), asks(4, min(last, at+256)))
	}
	shown(t, theirs, "main", "x")
	answers(t, s, piece(4, b, last), ends(4, api.OK))
	shown(t, theirs, "main", strings.Repeat("y", 600))
	if l := theirs.Refs().Log; len(l) != 2 || l[1] != (api.Entry{Update: api.Update{Kind: api.RBranch, Name: "main", Old: first, New: second}, Note: "push"}) {
		t.Errorf("%+v", l)
	}
	answers(t, s, piece(4, b, last), ends(4, api.ErrState))
	answers(t, s, session5, asks(5, 0))
	answers(t, s, m, asks(4, 0))
}

// sends sends a server all of a push, and fails unless it is done with that code.
func sends(t *testing.T, r *repo.Repo, m api.Message, b []byte, code api.Errno) {
	t.Helper()
	s := session.Serve(r, nil)
	ahead := r.Refs()
	a := read(t, s.Hear(bytes(t, m)))
	for a.Kind == api.MAsk {
		if a.At >= len(b) {
			t.Fatalf("asks from %d on", a.At)
		}
		a = read(t, s.Hear(bytes(t, piece(m.Session, b, a.At))))
	}
	if !reflect.DeepEqual(a, ends(m.Session, code)) {
		t.Errorf("%+v: %+v; want code %d", m, a, code)
	}
	answers(t, s, piece(m.Session, []byte{0}, 0), ends(m.Session, api.ErrState)) // none comes in any more
	if code != api.OK && !reflect.DeepEqual(r.Refs(), ahead) {
		t.Errorf("%+v: refs %+v", m, r.Refs())
	}
}

// P26.1: with what a push is done, and which error counts first.
func TestServerPushDone(t *testing.T) {
	theirs, own, first, second := pushed(t)
	b := bundled(t, own, ids(second), ids(first), nil)
	none := bundle(t, own)
	var zero api.Id
	stray := api.Id{9}

	sends(t, theirs, pushOf(0, nil, "main", first, second, false), nil, api.ErrForm) // no pack has no bytes
	sends(t, theirs, api.Message{Kind: api.MPush, Name: "main", New: second}, []byte{0}, api.ErrSum)
	wrong := slices.Clone(b)
	wrong[30]++
	sends(t, theirs, pushOf(0, b, "main", stray, stray, false), wrong, api.ErrSum)
	unlike := pushOf(0, b, "main", first, second, false)
	unlike.Id[31]++
	sends(t, theirs, unlike, b, api.ErrSum) // a pack, but not the one that was told
	if _, e := theirs.Object(second); e != api.ErrMissing {
		t.Errorf("error %d", e)
	}
	for _, one := range noPacks(t) {
		sends(t, theirs, pushOf(0, one.bytes, "main", stray, stray, false), one.bytes, one.e)
	}
	sends(t, theirs, pushOf(0, none, "main", stray, stray, false), none, api.ErrForm)
	sends(t, theirs, pushOf(0, none, "main", first, second, true), none, api.ErrForm) // not whole there, forced or not

	sends(t, theirs, pushOf(0, b, "main", stray, second, false), b, api.ErrBehind)
	sends(t, theirs, pushOf(0, b, "dev", stray, second, false), b, api.ErrBehind)
	sends(t, theirs, pushOf(0, b, "main", stray, second, true), b, api.ErrMoved)
	sends(t, theirs, pushOf(0, b, "main", zero, second, false), b, api.ErrMoved)
	sends(t, theirs, pushOf(0, b, "dev", first, second, false), b, api.ErrMoved)
	sends(t, theirs, pushOf(0, b, "main", second, second, false), b, api.ErrMoved)
	shown(t, theirs, digits(first), "x")

	full(t, theirs, first)
	sends(t, theirs, pushOf(0, b, "dev", zero, second, false), b, api.ErrFull)
	sends(t, theirs, pushOf(0, b, "full-9", first, second, false), b, api.OK)
	sends(t, theirs, pushOf(0, b, "main", first, second, false), b, api.OK)
	sends(t, theirs, pushOf(0, b, "main", second, second, false), b, api.OK) // in its own past
	sends(t, theirs, pushOf(0, none, "main", second, first, false), none, api.ErrBehind)
	sends(t, theirs, pushOf(0, none, "main", second, first, true), none, api.OK)
	shown(t, theirs, "main", "x")
	do(t, theirs, api.CDrop, "full-9")
	sends(t, theirs, pushOf(0, b, "dev", zero, second, false), b, api.OK)
	shown(t, theirs, "dev", strings.Repeat("y", 600))
}

// P26.1: objects that come in are there, though the push is refused; of a commit that is not whole nothing is moved.
func TestServerPushGap(t *testing.T) {
	all, part, whole := gap(t)
	r := begun(t, ample)
	b := packed(t, all...)
	sends(t, r, pushOf(0, b, "dev", api.Id{}, part, true), b, api.ErrForm)
	if _, e := r.Object(part); e != api.OK {
		t.Error("not there")
	}
	none := bundle(t, r)
	sends(t, r, pushOf(0, none, "dev", part, whole, false), none, api.ErrMoved)
	sends(t, r, pushOf(0, none, "dev", api.Id{}, whole, false), none, api.OK)
}

// P26.1: a pack for which there is no room.
func TestServerPushNoSpace(t *testing.T) {
	_, own, first, second := pushed(t)
	b := bundled(t, own, ids(second), ids(first), nil)
	small := begun(t, 900)
	commit(t, small, "x")
	sends(t, small, pushOf(0, b, "main", first, second, false), b, api.ErrNoSpace)
	shown(t, small, "main", "x")
}

// P26.1: a piece that is too long ends the push.
func TestServerTooLong(t *testing.T) {
	theirs, own, first, second := pushed(t)
	b := bundled(t, own, ids(second), ids(first), nil)
	for _, size := range []int{1, 255, 256, 300} {
		s := session.Serve(theirs, nil)
		m := pushOf(2, b[:size], "main", first, second, false)
		answers(t, s, m, asks(2, 0))
		if size >= 256 {
			a := asks(2, 256)
			if size == 256 {
				a = ends(2, api.ErrSum) // that was all, and no pack
			}
			answers(t, s, piece(2, b, 0), a)
		}
		if size == 256 {
			continue
		}
		at := size / 256 * 256
		answers(t, s, piece(2, b, at+1), asks(2, at)) // not next, so not too long
		answers(t, s, piece(2, b, at), ends(2, api.ErrSum))
		answers(t, s, piece(2, b, at), ends(2, api.ErrState))
		answers(t, s, m, asks(2, 0))
	}
	if l := told(theirs); !slices.Equal(l, []api.Update{branch("main", first)}) {
		t.Errorf("%v", l)
	}
}

// P26.2: how many turns there are.
func TestTurns(t *testing.T) {
	const most = 1 << 40
	for _, c := range [][3]int{
		{0, 0, 8 + 2*5},
		{2, 0, 8 + 2*5},       // 1280 bytes
		{2, 1, 8 + 2*6},       // 1282
		{1, 45, 8 + 2*5},      // 1280
		{1, 46, 8 + 2*6},      // 1282
		{100, 1000, 8 + 2*48}, // 12100
		{10, 2000, 8 + 2*24},  // 6000
		{most, most, 8 + 2*((1100+92*most+255)/256)},
		{most + 1, 0, 0},
		{0, most + 1, 0},
		{-1, 0, 0},
		{0, -1, 0},
		{-1, most + 1, 0},
		{-1 << 63, 1<<63 - 1, 0},
		{1<<63 - 1, 1<<63 - 1, 0},
		{most, 0, 8 + 2*((1100+90*most+255)/256)},
		{0, most, 8 + 2*((1100+2*most+255)/256)},
	} {
		if got := session.Turns(c[0], c[1]); got != c[2] {
			t.Errorf("%d, %d: %d; want %d", c[0], c[1], got, c[2])
		}
	}
}

// R4: what a server is handed is neither changed nor kept, what it hands out is new.
func TestServerMemory(t *testing.T) {
	theirs, own, first, second := pushed(t)
	b := bundled(t, own, ids(second), ids(first), nil)
	s := session.Serve(theirs, nil)
	hear := func(m api.Message) api.Message {
		t.Helper()
		given := append(bytes(t, m), 1, 2, 3)
		kept := slices.Clone(given)
		a := s.Hear(given[:len(given)-3])
		if !slices.Equal(given, kept) {
			t.Fatalf("%+v: what was handed in is changed", m)
		}
		clear(given)
		told := read(t, a)
		clear(a[:cap(a)])
		return told
	}
	hear(pushOf(1, b, "main", first, second, false))
	for at := 0; at < len(b); at += 256 {
		hear(piece(1, b, at))
	}
	shown(t, theirs, "main", strings.Repeat("y", 600))
	all := bundle(t, theirs, second)
	hear(api.Message{Kind: api.MWant, Session: 1, Wants: ids(second)})
	for at := 0; at < len(all); at += 256 {
		hear(asks(1, at))
		if m := hear(asks(1, at)); !reflect.DeepEqual(m, piece(1, all, at)) {
			t.Fatalf("%d: %+v", at, m)
		}
	}
	hear(hello(1))
	if m := hear(hello(1)); !slices.Equal(m.Refs, []api.Update{branch("main", second)}) {
		t.Errorf("%+v", m)
	}
}
