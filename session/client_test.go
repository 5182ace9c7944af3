package session_test

import (
	"reflect"
	"slices"
	"strconv"
	"strings"
	"testing"

	"variorum/api"
	"variorum/disk"
	"variorum/repo"
	"variorum/session"
)

// open fails, unless a client is not ended.
func open(t *testing.T, c *session.Client) {
	t.Helper()
	if a, over := c.Ended(); over || !reflect.DeepEqual(a, api.Answer{}) {
		t.Fatalf("%+v, %t", a, over)
	}
}

// ended fails, unless a client is ended with an error alone.
func ended(t *testing.T, c *session.Client, e api.Errno) {
	t.Helper()
	if a, over := c.Ended(); !over || a.Error != e || a.Id != (api.Id{}) || len(a.Files)+len(a.Runs)+len(a.Lines) > 0 {
		t.Fatalf("%+v, %t; want error %d", a, over, e)
	}
	is(t, c.Say(), api.Message{})
	c.Hear(bytes(t, hello(1)))
	c.Hear(bytes(t, api.Message{Kind: api.MRefs, Session: 1}))
	is(t, c.Say(), api.Message{})
}

// hears has a client hear a message, ahead of which it says something, and behind which it says something else (zero: it is ended).
func hears(t *testing.T, c *session.Client, says, m, then api.Message) {
	t.Helper()
	deaf(t, c, says, m.Kind)
	c.Hear(bytes(t, m))
	is(t, c.Say(), then)
	if then.Kind != 0 {
		open(t, c)
	}
}

// deaf fails, unless a client says a message, again and again, and hears none of other sessions, nor of other kinds than it may hear then.
func deaf(t *testing.T, c *session.Client, says api.Message, kinds ...uint8) {
	t.Helper()
	is(t, c.Say(), says)
	n := says.Session
	for _, b := range [][]byte{nil, {}, {1}, {9, 0}, append(bytes(t, ends(n, api.OK)), 0)} {
		c.Hear(b)
	}
	may := map[uint8][]uint8{api.MHello: {api.MRefs}, api.MWant: {api.MHead, api.MDone}, api.MAsk: {api.MPiece, api.MDone}, api.MPush: {api.MAsk, api.MDone}, api.MPiece: {api.MAsk, api.MDone}}[says.Kind]
	for _, kind := range kinds {
		if !slices.Contains(may, kind) {
			t.Fatalf("kind %d", kind)
		}
	}
	for _, m := range []api.Message{
		hello(n),
		{Kind: api.MRefs, Session: n},
		{Kind: api.MRefs, Session: n, Refs: []api.Update{branch("x", api.Id{9})}},
		{Kind: api.MWant, Session: n},
		{Kind: api.MHead, Session: n},
		{Kind: api.MHead, Session: n, Size: 1},
		asks(n, 0),
		asks(n, 1<<20),
		{Kind: api.MPiece, Session: n, Bytes: []byte{1}},
		{Kind: api.MPush, Session: n, Name: "x", New: api.Id{9}},
		ends(n, api.OK),
		ends(n, api.ErrState),
	} {
		if !slices.Contains(may, m.Kind) {
			c.Hear(bytes(t, m))
		}
		for _, other := range []int{n + 1, 0, 1<<31 - 1} {
			m.Session = other
			if other != n {
				c.Hear(bytes(t, m))
			}
		}
	}
	is(t, c.Say(), says)
	open(t, c)
}

// turns has a client and a server hear one another, till the client is ended; it fails where there are too many turns. It tells how many there were.
func turns(t *testing.T, c *session.Client, s *session.Server, most int) int {
	t.Helper()
	for n := range most {
		m := c.Say()
		a := s.Hear(m)
		if m == nil || a == nil {
			t.Fatalf("nothing is said: %+v", read(t, m))
		}
		c.Hear(a)
		if _, over := c.Ended(); over {
			return n + 1
		}
	}
	t.Fatalf("not ended behind %d turns: %+v", most, read(t, c.Say()))
	return 0
}

// fetches has a repository fetch from another one, and fails, unless it is ended with that error.
func fetches(t *testing.T, own, theirs *repo.Repo, prefix string, e api.Errno) {
	t.Helper()
	c := session.Fetch(own, 1, prefix)
	turns(t, c, session.Serve(theirs, nil), 10000)
	ended(t, c, e)
}

// wants is what a fetching client says.
func wants(n int, wants, haves []api.Id) api.Message {
	return api.Message{Kind: api.MWant, Session: n, Wants: wants, Haves: haves}
}

// tells is what a server says of its refs.
func tells(n int, l ...api.Update) api.Message {
	return api.Message{Kind: api.MRefs, Session: n, Refs: l}
}

// log is what has become of refs since there were so many entries: what was done, and the notes.
func log(r *repo.Repo, from int) (l []api.Update, notes string) {
	for _, entry := range r.Refs().Log[from:] {
		l, notes = append(l, entry.Update), notes+entry.Note+" "
	}
	return l, notes
}

// logged fails, unless the last that was done to refs is updates with one note.
func logged(t *testing.T, r *repo.Repo, from int, note string, want ...api.Update) {
	t.Helper()
	l, notes := log(r, from)
	if !slices.Equal(l, want) || notes != strings.Repeat(note+" ", len(want)) {
		t.Errorf("%+v, %s; want %+v", l, notes, want)
	}
}

// P26.1: a fetch, message by message.
func TestFetch(t *testing.T) {
	theirs, own := begun(t, ample), begun(t, ample)
	first := commit(t, theirs, strings.Repeat("one ", 200))
	do(t, theirs, api.CTag, "v1")
	do(t, theirs, api.CBranch, "dev")
	second := commit(t, theirs, strings.Repeat("two ", 200))
	s := session.Serve(theirs, []int{1})
	c := session.Fetch(own, 3, "from.")
	hears(t, c, hello(3), tells(3, told(theirs)...), wants(3, ids(first, second), nil))
	b := bundled(t, theirs, ids(first, second), nil, []int{1})
	answers(t, s, wants(3, ids(first, second), nil), head(3, b))
	hears(t, c, wants(3, ids(first, second), nil), head(3, b), asks(3, 0))
	for at := 0; at < len(b); at += 256 {
		for _, other := range []int{at - 256, at - 1, at + 1, at + 256, 1 << 20} {
			if other >= 0 {
				c.Hear(bytes(t, api.Message{Kind: api.MPiece, Session: 3, At: other, Bytes: []byte("no")}))
			}
		}
		c.Hear(bytes(t, api.Message{Kind: api.MPiece, Session: 3, At: 1 << 20, Bytes: make([]byte, 256)})) // not next, so not too long
		then := asks(3, at+256)
		if at+256 >= len(b) {
			then = api.Message{}
		}
		answers(t, s, asks(3, at), piece(3, b, at))
		hears(t, c, asks(3, at), piece(3, b, at), then)
	}
	ended(t, c, api.OK)
	shown(t, own, "from.main", strings.Repeat("two ", 200))
	logged(t, own, 0, "fetch", branch("from.dev", first), branch("from.main", second), tag("from.v1", first))
	own2 := own.Refs()
	if own2.Head != "main" || len(own2.Branches) != 2 {
		t.Errorf("%+v", own2)
	}

	// What is there already is not asked for again, and nothing is done where nothing is new.
	hears(t, session.Fetch(own, 4, "from."), hello(4), tells(4, told(theirs)...), api.Message{})
	logged(t, own, 3, "")
	do(t, theirs, api.CUntag, "v1")
	do(t, theirs, api.CTag, "v1") // elsewhere
	do(t, theirs, api.CTag, "v2")
	do(t, theirs, api.CDrop, "dev")
	third := commit(t, theirs, "three")
	c = session.Fetch(own, 5, "from.")
	hears(t, c, hello(5), tells(5, told(theirs)...), wants(5, ids(third), ids(first, second)))
	b = bundled(t, theirs, ids(third), ids(first, second), []int{1})
	if n, want := turns(t, c, s, 100), 1+(len(b)+255)/256; n != want {
		t.Errorf("%d turns; want %d", n, want)
	}
	ended(t, c, api.OK)
	from := branch("from.main", third)
	from.Old = second
	logged(t, own, 3, "fetch", from, tag("from.v2", second)) // dev stays, and so does v1
}

// P26.1: a fetch whose commits are known already, in each way.
func TestFetchKnown(t *testing.T) {
	r := begun(t, ample)
	first := commit(t, r, "x")
	second := commit(t, r, "xy")
	for _, c := range []struct {
		told []api.Update
		want []api.Update
	}{
		{nil, nil},
		{[]api.Update{branch("main", second)}, nil},
		{[]api.Update{tag("v", first)}, []api.Update{tag("v", first)}},
		{[]api.Update{tag("v", second)}, nil}, // it is there already
		{[]api.Update{branch("main", first)}, []api.Update{{Kind: api.RBranch, Name: "main", Old: second, New: first}}},
		{[]api.Update{branch("a", second), branch("main", first), branch("v", first), tag("a", first), tag("main", second)}, []api.Update{branch("a", second), branch("v", first), tag("a", first), tag("main", second)}},
	} {
		from := len(r.Refs().Log)
		client := session.Fetch(r, 1, "")
		hears(t, client, hello(1), tells(1, c.told...), api.Message{})
		ended(t, client, api.OK)
		logged(t, r, from, "fetch", c.want...)
	}
}

// P26.1: a prefix with which a name may be none.
func TestFetchPrefix(t *testing.T) {
	theirs := begun(t, ample)
	first := commit(t, theirs, "x")
	moved(t, theirs, branch("abcdefgh", first), tag("abcdefgh", first), branch("EAD", first))
	for prefix, want := range map[string][]string{
		"":                         {"EAD", "abcdefgh", "main"},
		"H":                        {"Habcdefgh", "Hmain"},
		strings.Repeat("n", 24):    {strings.Repeat("n", 24) + "EAD", strings.Repeat("n", 24) + "abcdefgh", strings.Repeat("n", 24) + "main"},
		strings.Repeat("n", 25):    {strings.Repeat("n", 25) + "EAD", strings.Repeat("n", 25) + "main"},
		strings.Repeat("n", 28):    {strings.Repeat("n", 28) + "EAD", strings.Repeat("n", 28) + "main"},
		strings.Repeat("n", 30):    nil,
		strings.Repeat("n", 10000): nil,
		"-":                        nil,
		".":                        nil,
		"a/":                       nil,
		"\xff":                     nil,
	} {
		own := begun(t, ample)
		fetches(t, own, theirs, prefix, api.OK)
		var l []string
		for _, n := range own.Refs().Branches {
			l = append(l, n.Name)
		}
		if !slices.Equal(l, want) || len(own.Refs().Tags) > 1 || (len(own.Refs().Tags) == 1) != slices.Contains(want, prefix+"abcdefgh") {
			t.Errorf("%.40q: %q", prefix, l)
		}
		if _, e := own.Object(first); e != api.OK { // what was wanted has come all the same
			t.Errorf("%.40q: error %d", prefix, e)
		}
	}
}

// P26.1: a pack that is none, for each cause, has a client be as at first; another error ends it.
func TestFetchNoPack(t *testing.T) {
	id := api.Id{9}
	own := begun(t, ample)
	begin := func(b []byte) *session.Client {
		t.Helper()
		c := session.Fetch(own, 1, "")
		hears(t, c, hello(1), tells(1, branch("x", id)), wants(1, ids(id), nil))
		then := asks(1, 0)
		if len(b) == 0 {
			then = hello(1)
		}
		hears(t, c, wants(1, ids(id), nil), head(1, b), then)
		return c
	}
	pull := func(c *session.Client, b []byte) {
		t.Helper()
		for at := 0; at < len(b); at += 256 {
			is(t, c.Say(), asks(1, at))
			c.Hear(bytes(t, piece(1, b, at)))
		}
		deaf(t, c, hello(1))
	}
	begin(nil)
	for _, one := range noPacks(t) {
		pull(begin(one.bytes), one.bytes)
	}
	none := packed(t)
	pull(begin(none), none) // but the commit is not there
	wrong := slices.Clone(none)
	wrong[9]++
	pull(begin(none), wrong)
	theirs := begun(t, ample)
	first := commit(t, theirs, "x")
	b := bundle(t, theirs, first)
	c := begin(b)
	c.Hear(bytes(t, ends(1, api.OK)))
	hears(t, c, hello(1), tells(1, branch("x", first)), wants(1, ids(first), nil))
	unlike := head(1, b)
	unlike.Id[31]++
	hears(t, c, wants(1, ids(first), nil), unlike, asks(1, 0))
	pull(c, b) // a pack, but not the one that was told
	if _, e := own.Object(first); e != api.ErrMissing {
		t.Errorf("error %d", e)
	}
	for _, size := range []int{1, 255, 256, 400} {
		c := begin(none[:size])
		if size > 256 {
			hears(t, c, asks(1, 0), piece(1, none, 0), asks(1, 256))
		}
		hears(t, c, asks(1, size/257*256), piece(1, none, size/257*256), hello(1)) // too long, or all of what is no pack
	}
	for code := range api.ErrUse + 1 { // MDone, whatever it says
		c := begin(none)
		hears(t, c, asks(1, 0), ends(1, code), hello(1))
		hears(t, c, hello(1), tells(1, branch("x", id)), wants(1, ids(id), nil))
		hears(t, c, wants(1, ids(id), nil), ends(1, code), hello(1))
	}
	if len(told(own)) != 0 {
		t.Errorf("%v", told(own))
	}
	deaf(t, begin(none), asks(1, 0))
}

// P26.1: what was told ahead counts no more, once a client is as at first.
func TestFetchAgain(t *testing.T) {
	theirs, own := begun(t, ample), begun(t, ample)
	first := commit(t, theirs, "x")
	b := bundle(t, theirs, first)
	c := session.Fetch(own, 1, "")
	hears(t, c, hello(1), tells(1, branch("gone", first), branch("x", api.Id{9})), wants(1, ids(first, api.Id{9}), nil))
	hears(t, c, wants(1, ids(first, api.Id{9}), nil), ends(1, api.ErrMissing), hello(1))
	hears(t, c, hello(1), tells(1, branch("main", first)), wants(1, ids(first), nil))
	hears(t, c, wants(1, ids(first), nil), head(1, b), asks(1, 0))
	hears(t, c, asks(1, 0), piece(1, b, 0), asks(1, 256))
	hears(t, c, asks(1, 256), ends(1, api.ErrArg), hello(1))
	hears(t, c, hello(1), tells(1, branch("main", first)), wants(1, ids(first), nil))
	hears(t, c, wants(1, ids(first), nil), head(1, b), asks(1, 0)) // from the beginning on
	turns(t, c, served(t, theirs, 1, first), 100)
	ended(t, c, api.OK)
	logged(t, own, 0, "fetch", branch("main", first))
}

// served is a server from which a pack goes out.
func served(t *testing.T, r *repo.Repo, n int, l ...api.Id) *session.Server {
	t.Helper()
	s := session.Serve(r, nil)
	s.Hear(bytes(t, wants(n, ids(l...), nil)))
	return s
}

// P26.1: Move's errors, at the end of a fetch.
func TestFetchMove(t *testing.T) {
	all, part, whole := gap(t)
	own := begun(t, ample)
	own.Take(all)
	moved(t, own, branch("dev", whole))
	hears(t, session.Fetch(own, 1, ""), hello(1), tells(1, branch("x", part)), hello(1)) // known, but not whole
	full(t, own, whole)
	c := session.Fetch(own, 1, "")
	hears(t, c, hello(1), tells(1, branch("x", whole), tag("x", whole)), api.Message{})
	ended(t, c, api.ErrFull)
	if len(own.Refs().Tags) != 0 {
		t.Error("a part is done")
	}
	theirs := begun(t, ample)
	commit(t, theirs, "x")
	fetches(t, own, theirs, "", api.ErrFull)
	fetches(t, own, theirs, "-", api.OK)
}

// P26.1: no room ends a fetch: for the objects, or for the refs.
func TestFetchNoSpace(t *testing.T) {
	theirs := begun(t, ample)
	first := commit(t, theirs, strings.Repeat("x", 500))
	met := map[api.Errno]int{}
	for quota := 100; quota < 1200; quota += 20 {
		own := begun(t, quota)
		c := session.Fetch(own, 1, "")
		turns(t, c, session.Serve(theirs, nil), 100)
		a, _ := c.Ended()
		ended(t, c, a.Error)
		met[a.Error]++
		_, e := own.Object(first)
		if a.Error == api.OK {
			shown(t, own, "main", strings.Repeat("x", 500))
		} else if len(told(own)) != 0 {
			t.Errorf("%d: %v", quota, told(own))
		} else if e == api.OK {
			met[-1]++ // the refs alone had no room
		}
	}
	if len(met) != 3 || met[api.OK] == 0 || met[api.ErrNoSpace] == 0 || met[-1] == 0 {
		t.Errorf("%v", met)
	}
}

// P26.1: where nothing is new nothing is done: no room is needed for that.
func TestFetchNothing(t *testing.T) {
	d := disk.New(1000)
	own, _ := repo.Open(d)
	first := commit(t, own, "x")
	if e := d.Append("more", make([]byte, 1000-d.Used())); e != api.OK {
		t.Fatalf("error %d", e)
	}
	c := session.Fetch(own, 1, "")
	hears(t, c, hello(1), tells(1, branch("main", first)), api.Message{})
	ended(t, c, api.OK)
	c = session.Fetch(own, 1, "")
	hears(t, c, hello(1), tells(1, branch("dev", first)), api.Message{})
	ended(t, c, api.ErrNoSpace)
}

// P26.1: what a client fetches upon, each time it says so.
func TestFetchHaves(t *testing.T) {
	theirs, own := begun(t, ample), begun(t, ample)
	first := commit(t, theirs, "x")
	fetches(t, own, theirs, "", api.OK)
	do(t, own, api.CTag, "v")
	mine := commit(t, own, "mine")
	do(t, own, api.CBranch, "dev")
	do(t, own, api.CSwitch, digits(first))
	do(t, own, api.CDrop, "dev") // mine is in main, and in the log
	do(t, own, api.CDrop, "main")
	second := commit(t, theirs, "xy")
	c := session.Fetch(own, 1, "")
	hears(t, c, hello(1), tells(1, told(theirs)...), wants(1, ids(second), ids(first, mine)))
	more := commit(t, own, "more")
	is(t, c.Say(), wants(1, ids(second), ids(first, mine, more)))
}

// P26.1: a push, message by message.
func TestPush(t *testing.T) {
	theirs, own, first, second := pushed(t)
	do(t, theirs, api.CTag, "dev")
	do(t, own, api.CTag, "main", digits(first)) // a tag is none
	choices := []int{1, 2}
	c := session.Push(own, 8, "main", false, choices)
	choices[0] = 7
	b := bundled(t, own, ids(second), ids(first), []int{1, 2})
	offer := pushOf(8, b, "main", first, second, false)
	hears(t, c, hello(8), tells(8, told(theirs)...), offer)
	hears(t, c, offer, asks(8, 0), piece(8, b, 0))
	for _, at := range []int{256, 0, 1, 100, len(b) - 1, len(b) - 256, 300} {
		hears(t, c, c8(t, c), asks(8, at), piece(8, b, at))
	}
	hears(t, c, piece(8, b, 300), asks(8, len(b)), hello(8))
	hears(t, c, hello(8), tells(8, told(theirs)...), offer)
	hears(t, c, offer, asks(8, 256), piece(8, b, 256)) // it was taken up where it was
	s := session.Serve(theirs, nil)
	if n, want := turns(t, c, s, 100), 1+1+1+(len(b)+255)/256; n != want { // the first piece is lost
		t.Errorf("%d turns; want %d", n, want)
	}
	ended(t, c, api.OK)
	shown(t, theirs, "main", strings.Repeat("y", 600))
	logged(t, theirs, 2, "push", api.Update{Kind: api.RBranch, Name: "main", Old: first, New: second})
}

// c8 is what a client of session 8 says.
func c8(t *testing.T, c *session.Client) api.Message {
	t.Helper()
	return read(t, c.Say())
}

// P26.1: what ends a push at once, and which bases it has.
func TestPushPrepare(t *testing.T) {
	theirs, own, first, second := pushed(t)
	do(t, own, api.CTag, "v", "")
	do(t, own, api.CBranch, "dev", digits(first))
	other := commit(t, theirs, "other")
	var zero api.Id
	for _, c := range []struct {
		name  string
		force bool
		told  []api.Update
		e     api.Errno // or, if it is 0 and to is told, what is offered
		from  api.Id
		to    api.Id
		haves []api.Id
	}{
		{name: "nope", e: api.ErrNone},
		{name: "", e: api.ErrNone},
		{name: "v", e: api.ErrNone, told: []api.Update{branch("v", first)}},
		{name: digits(first), force: true, e: api.ErrNone},
		{name: "main", told: []api.Update{branch("main", second)}},
		{name: "main", force: true, told: []api.Update{branch("main", second), tag("main", first)}},
		{name: "main", told: []api.Update{branch("main", other)}, e: api.ErrBehind},
		{name: "dev", told: []api.Update{branch("dev", second)}, e: api.ErrBehind},
		{name: "main", to: second},
		{name: "main", told: []api.Update{tag("main", second)}, to: second, haves: ids(second)},
		{name: "main", told: []api.Update{branch("dev", first), branch("x", other)}, to: second, haves: ids(first)},
		{name: "main", told: []api.Update{branch("main", first)}, from: first, to: second, haves: ids(first)},
		{name: "main", force: true, told: []api.Update{branch("main", other)}, from: other, to: second},
		{name: "main", force: true, told: []api.Update{branch("main", other), tag("v", first)}, from: other, to: second, haves: ids(first)},
		{name: "dev", force: true, told: []api.Update{branch("dev", second)}, from: second, to: first, haves: ids(second)},
	} {
		client := session.Push(own, 1, c.name, c.force, nil)
		var then api.Message
		if c.to != zero {
			then = pushOf(1, bundled(t, own, ids(c.to), c.haves, nil), c.name, c.from, c.to, c.force)
		}
		hears(t, client, hello(1), tells(1, c.told...), then)
		if c.to == zero {
			ended(t, client, c.e)
		}
	}
}

// P26.1: Bundle's errors end a push.
func TestPushBundle(t *testing.T) {
	big := great(t)
	c := session.Push(big, 1, "main", false, nil)
	hears(t, c, hello(1), tells(1), api.Message{})
	ended(t, c, api.ErrLong)
	all, part, whole := gap(t)
	own := begun(t, ample)
	own.Take(all)
	moved(t, own, branch("dev", whole))
	c = session.Push(own, 1, "dev", false, nil)
	hears(t, c, hello(1), tells(1, branch("x", part)), api.Message{})
	ended(t, c, api.ErrForm)
	c = session.Push(own, 1, "dev", true, nil)
	hears(t, c, hello(1), tells(1, branch("dev", part)), api.Message{})
	ended(t, c, api.ErrForm)
}

// P26.1: what a pushing client makes of MDone, and of what it is asked.
func TestPushDone(t *testing.T) {
	theirs, own, first, second := pushed(t)
	b := bundled(t, own, ids(second), ids(first), nil)
	offer := pushOf(1, b, "main", first, second, false)
	begin := func() *session.Client {
		t.Helper()
		c := session.Push(own, 1, "main", false, nil)
		hears(t, c, hello(1), tells(1, told(theirs)...), offer)
		return c
	}
	for code := range api.ErrUse + 1 {
		then := api.Message{}
		if slices.Contains([]api.Errno{api.ErrState, api.ErrSum, api.ErrMoved, api.ErrForm}, code) {
			then = hello(1)
		}
		c := begin()
		hears(t, c, offer, ends(1, code), then)
		if then.Kind == 0 {
			ended(t, c, code)
		}
		c = begin()
		hears(t, c, offer, asks(1, 0), piece(1, b, 0))
		hears(t, c, piece(1, b, 0), ends(1, code), then)
		if then.Kind == 0 {
			ended(t, c, code)
		} else {
			hears(t, c, then, tells(1, branch("main", second)), api.Message{})
			ended(t, c, api.OK)
		}
	}
	for _, at := range []int{len(b), len(b) + 1, 1 << 20} {
		hears(t, begin(), offer, asks(1, at), hello(1))
		c := begin()
		hears(t, c, offer, asks(1, len(b)-1), piece(1, b, len(b)-1))
		hears(t, c, piece(1, b, len(b)-1), asks(1, at), hello(1))
	}
	c := begin()
	commit(t, own, "later") // what is offered stays as it is
	is(t, c.Say(), offer)
	deaf(t, c, offer)
	hears(t, c, offer, asks(1, 0), piece(1, b, 0))
	deaf(t, c, piece(1, b, 0))
	s := session.Serve(theirs, nil)
	answers(t, s, offer, asks(1, 0))
	turns(t, c, s, 100)
	ended(t, c, api.OK)
	shown(t, theirs, "main", strings.Repeat("y", 600))
}

// P26.1: pushes, as they come out in the end.
func TestPushes(t *testing.T) {
	theirs, own, first, second := pushed(t)
	push := func(name string, force bool, e api.Errno) {
		t.Helper()
		c := session.Push(own, 1, name, force, []int{3, 1})
		turns(t, c, session.Serve(theirs, nil), 100)
		ended(t, c, e)
	}
	push("main", false, api.OK)
	push("main", false, api.OK) // there already
	logged(t, theirs, 1, "push", api.Update{Kind: api.RBranch, Name: "main", Old: first, New: second})
	do(t, own, api.CBranch, "new")
	push("new", false, api.OK)
	logged(t, theirs, 2, "push", branch("new", second))
	do(t, own, api.CSwitch, digits(first))
	do(t, own, api.CDrop, "main")
	do(t, own, api.CBranch, "main")
	push("main", false, api.ErrBehind)
	push("main", true, api.OK)
	logged(t, theirs, 3, "push", api.Update{Kind: api.RBranch, Name: "main", Old: second, New: first})
	do(t, own, api.CSwitch, "main")
	commit(t, own, "own")
	commit(t, theirs, "theirs")
	push("main", false, api.ErrBehind)
	shown(t, theirs, "main", "theirs")
	fetches(t, own, theirs, "n.", api.OK)
	done(t, own, api.Command{Kind: api.CMerge, Name: "n.main"})
	push("main", false, api.OK)
	a, b := own.Do(api.Command{Kind: api.CCheckout}), theirs.Do(api.Command{Kind: api.CCheckout})
	if !reflect.DeepEqual(a, b) {
		t.Errorf("%+v, %+v", a, b)
	}
	push("nope", true, api.ErrNone)
	full(t, theirs, first)
	do(t, own, api.CBranch, "more")
	push("more", false, api.ErrFull)
	small := begun(t, 300)
	c := session.Push(own, 1, "main", false, nil)
	turns(t, c, session.Serve(small, nil), 100)
	ended(t, c, api.ErrNoSpace)
}

// P26.1: many branches and tags, and commits of which one comes of the other; two that fetch from each other have the same.
func TestFetchMany(t *testing.T) {
	theirs, own := begun(t, ample), begun(t, ample)
	for i := range 30 {
		commit(t, theirs, strings.Repeat("text ", i))
		do(t, theirs, api.CBranch, "b"+strconv.Itoa(i))
		do(t, theirs, api.CTag, "t"+strconv.Itoa(i))
		if i%7 == 0 {
			do(t, theirs, api.CRepack)
			fetches(t, own, theirs, "f.", api.OK)
		}
	}
	fetches(t, own, theirs, "f.", api.OK)
	var want []api.Update
	for _, u := range told(theirs) {
		u.Name = "f." + u.Name
		want = append(want, u)
	}
	if got := told(own); !slices.Equal(got, want) {
		t.Errorf("%v; want %v", got, want)
	}
	for i := range 30 {
		shown(t, own, "f.b"+strconv.Itoa(i), strings.Repeat("text ", i))
	}
}

// R4: what a client is handed is neither changed nor kept, what it hands out is new.
func TestClientMemory(t *testing.T) {
	theirs, own, _, second := pushed(t)
	clients := []*session.Client{session.Push(own, 1, "main", false, nil), session.Fetch(begun(t, ample), 1, "")}
	for _, c := range clients {
		s := session.Serve(theirs, nil)
		for range 40 {
			m := c.Say()
			kept := slices.Clone(m)
			clear(m[:cap(m)])
			if !slices.Equal(c.Say(), kept) {
				t.Fatalf("%+v has changed", read(t, kept))
			}
			a := append(s.Hear(kept), 1, 2)
			before := slices.Clone(a)
			c.Hear(a[:len(a)-2])
			if !slices.Equal(a, before) {
				t.Fatalf("%+v: what was handed in is changed", read(t, before[:len(before)-2]))
			}
			clear(a)
			if _, over := c.Ended(); over {
				break
			}
		}
		ended(t, c, api.OK)
	}
	if l := told(theirs); !slices.Equal(l, []api.Update{branch("main", second)}) {
		t.Errorf("%v", l)
	}
}
