package net_test

import (
	"math"
	"reflect"
	"slices"
	"strconv"
	"strings"
	"testing"

	"variorum/api"
	"variorum/net"
	"variorum/object"
	"variorum/order"
	"variorum/repo"
	"variorum/sha"
	"variorum/wire"
)

// tells fails, unless a step tells a number, and no error.
func tells(t *testing.T, w *net.Net, x net.Step, n int) {
	t.Helper()
	if got := w.Do(x); !reflect.DeepEqual(got, net.Told{N: n}) {
		t.Fatalf("%+v: %+v; want %d", x, got, n)
	}
}

// refuses fails, unless a step has an error, tells nothing else, and has done nothing that is seen.
func refuses(t *testing.T, w *net.Net, x net.Step, e api.Errno) {
	t.Helper()
	flight, sessions := w.Flight(), w.Sessions()
	if got := w.Do(x); !reflect.DeepEqual(got, net.Told{Answer: api.Answer{Error: e}}) {
		t.Fatalf("%+v: %+v; want error %d", x, got, e)
	}
	if w.Flight() != flight || w.Sessions() != sessions {
		t.Fatalf("%+v: %d messages, %d sessions", x, w.Flight(), w.Sessions())
	}
}

// do has a node do a command, and fails, if that has an error.
func do(t *testing.T, w *net.Net, node int, c api.Command) api.Answer {
	t.Helper()
	c.Author = "Ann"
	told := w.Do(net.Step{Kind: net.NDo, Node: node, Command: c})
	if told.Answer.Error != api.OK || told.N != 0 {
		t.Fatalf("command %d %q: %+v", c.Kind, c.Name, told)
	}
	return told.Answer
}

// commit has a node commit a text in the file a.
func commit(t *testing.T, w *net.Net, node int, text string) api.Id {
	t.Helper()
	return do(t, w, node, api.Command{Kind: api.CCommit, Files: []api.File{{Path: "a", Bytes: text}}, Note: "n"}).Id
}

// begins begins a session, and fails, unless it has that number.
func begins(t *testing.T, w *net.Net, x net.Step, number int) {
	t.Helper()
	tells(t, w, x, number)
	open(t, w, number)
}

func fetch(node, other int, prefix string) net.Step {
	return net.Step{Kind: net.NFetch, Node: node, Other: other, Name: prefix}
}

func push(node, other int, name string) net.Step {
	return net.Step{Kind: net.NPush, Node: node, Other: other, Name: name}
}

func at(kind uint8, place int) net.Step { return net.Step{Kind: kind, At: place} }

// open fails, if a session is ended.
func open(t *testing.T, w *net.Net, session int) {
	t.Helper()
	if a, over := w.Ended(session); over || !reflect.DeepEqual(a, api.Answer{}) {
		t.Fatalf("session %d: %+v, %t", session, a, over)
	}
}

// ended fails, unless a session is ended with an error, or with OK.
func ended(t *testing.T, w *net.Net, session int, e api.Errno) {
	t.Helper()
	if a, over := w.Ended(session); !over || !reflect.DeepEqual(a, api.Answer{Error: e}) {
		t.Fatalf("session %d: %+v, %t; want error %d", session, a, over, e)
	}
}

// turns gives a session turns till it is ended, and fails, unless it is ended so. It tells how many there were.
func turns(t *testing.T, w *net.Net, session int, e api.Errno) int {
	t.Helper()
	for n := 1; n <= 10000; n++ {
		told := w.Do(at(net.NTurn, session))
		_, over := w.Ended(session)
		if told.N == 1 != over || !reflect.DeepEqual(told.Answer, api.Answer{}) {
			t.Fatalf("%+v, %t", told, over)
		}
		if over {
			ended(t, w, session, e)
			return n
		}
	}
	t.Fatalf("session %d is not ended", session)
	return 0
}

// branch is where a node's branch is; zero, if it is not there.
func branch(w *net.Net, node int, name string) api.Id {
	for _, n := range w.Repo(node).Refs().Branches {
		if n.Name == name {
			return n.Id
		}
	}
	return api.Id{}
}

// is fails, unless a node's branch is there.
func is(t *testing.T, w *net.Net, node int, name string, want api.Id) {
	t.Helper()
	if got := branch(w, node, name); got != want {
		t.Fatalf("node %d, %s: %x; want %x", node, name, got, want)
	}
}

// P27.1: nets of each number of nodes, and what a new one has.
func TestNew(t *testing.T) {
	for _, nodes := range []int{math.MinInt, -1, 0, 7, 8, math.MaxInt} {
		if net.New(nodes, nil) != nil {
			t.Errorf("%d nodes", nodes)
		}
	}
	for nodes := 1; nodes <= 6; nodes++ {
		w := net.New(nodes, []int{1, -5, math.MinInt})
		if w == nil || w.Flight() != 0 || w.Sessions() != 0 {
			t.Fatalf("%d nodes", nodes)
		}
		for _, node := range []int{math.MinInt, -1, nodes, nodes + 1, math.MaxInt} {
			if w.Repo(node) != nil {
				t.Errorf("%d nodes: node %d", nodes, node)
			}
			refuses(t, w, net.Step{Kind: net.NDo, Node: node, Command: api.Command{Kind: api.CRefs}}, api.ErrArg)
		}
		var met []*repo.Repo
		for node := range nodes {
			r := w.Repo(node)
			if r == nil || slices.Contains(met, r) || len(r.Refs().Branches) != 0 || r.Refs().Head != "main" {
				t.Fatalf("%d nodes: node %d", nodes, node)
			}
			met = append(met, r)
		}
		for _, session := range []int{math.MinInt, -1, 0, 1, math.MaxInt} {
			open(t, w, session)
		}
	}
}

// P27.1: a nil net.
func TestNil(t *testing.T) {
	var w *net.Net
	for kind := range 256 {
		if got := w.Do(net.Step{Kind: uint8(kind)}); !reflect.DeepEqual(got, net.Told{Answer: api.Answer{Error: api.ErrArg}}) {
			t.Errorf("kind %d: %+v", kind, got)
		}
	}
	if w.Repo(0) != nil || w.Flight() != 0 || w.Sessions() != 0 {
		t.Error("something is there")
	}
	open(t, w, 0)
}

// P27.1: what must not be asked, of each kind.
func TestErrArg(t *testing.T) {
	w := net.New(2, nil)
	for kind := range 256 { // there are no sessions and no messages yet
		switch kind := uint8(kind); kind {
		case net.NDo, net.NFetch, net.NPush, net.NCrash:
		default:
			refuses(t, w, net.Step{Kind: kind}, api.ErrArg)
			refuses(t, w, net.Step{Kind: kind, Other: 1, Bytes: []byte{1, 0}, Force: true}, api.ErrArg)
		}
	}
	refuses(t, w, net.Step{Kind: net.NDo}, api.ErrArg) // so says the repository
	for _, kind := range []uint8{net.NFetch, net.NPush} {
		for _, pair := range [][2]int{{0, 0}, {1, 1}, {-1, 0}, {0, -1}, {2, 0}, {0, 2}, {2, 2}, {-1, -1}, {math.MinInt, 1}, {1, math.MaxInt}} {
			refuses(t, w, net.Step{Kind: kind, Node: pair[0], Other: pair[1], Name: "main"}, api.ErrArg)
		}
		refuses(t, w, net.Step{Kind: kind, Other: 1, Name: strings.Repeat("n", 33)}, api.ErrArg)
		refuses(t, w, net.Step{Kind: kind, Other: 1, Name: strings.Repeat("é", 17)}, api.ErrArg)
	}
	begins(t, w, fetch(0, 1, strings.Repeat("n", 32)), 0)
	begins(t, w, push(1, 0, strings.Repeat("é", 16)), 1)
	tells(t, w, at(net.NSay, 0), 1)
	for _, place := range []int{math.MinInt, -1, 2, 3, math.MaxInt} {
		for _, kind := range []uint8{net.NSay, net.NForge, net.NTurn, net.NDeliver, net.NLose, net.NDouble} {
			refuses(t, w, at(kind, place), api.ErrArg)
		}
		refuses(t, w, net.Step{Kind: net.NCrash, Node: place}, api.ErrArg)
		open(t, w, place)
	}
	for _, kind := range []uint8{net.NDeliver, net.NLose, net.NDouble} {
		refuses(t, w, at(kind, 1), api.ErrArg) // there is but one message
	}
	tells(t, w, net.Step{Kind: net.NLose, Node: 7, Other: -1, Name: strings.Repeat("n", 40)}, 0) // what a kind has not does not count
	refuses(t, w, at(net.NLose, 0), api.ErrArg)
}

// P27.1: at most 64 sessions, and 256 messages.
func TestErrFull(t *testing.T) {
	w := net.New(3, nil)
	for i := range 64 {
		if i%2 == 0 {
			begins(t, w, fetch(0, 1+i%3%2, ""), i)
		} else {
			begins(t, w, push(1, 2*(i%3%2), "main"), i)
		}
	}
	for _, kind := range []uint8{net.NFetch, net.NPush} {
		refuses(t, w, net.Step{Kind: kind, Node: 1, Name: "x"}, api.ErrFull)
		refuses(t, w, net.Step{Kind: kind, Node: 1, Other: 1}, api.ErrArg)
		refuses(t, w, net.Step{Kind: kind, Node: 1, Name: strings.Repeat("n", 33)}, api.ErrArg)
		refuses(t, w, net.Step{Kind: kind, Node: 3}, api.ErrArg)
	}
	for i := 1; i < 64; i += 2 {
		turns(t, w, i, api.ErrNone) // it has no such branch
	}
	for i := range 256 {
		switch i % 3 {
		case 0:
			tells(t, w, at(net.NSay, i%64&^1), i+1)
		case 1:
			tells(t, w, at(net.NDouble, i/2), i+1)
		default:
			tells(t, w, net.Step{Kind: net.NForge, At: i % 64, Force: i%2 == 0}, i+1)
		}
	}
	refuses(t, w, at(net.NSay, 0), api.ErrFull)
	refuses(t, w, at(net.NDouble, 255), api.ErrFull)
	refuses(t, w, net.Step{Kind: net.NForge}, api.ErrFull)
	refuses(t, w, at(net.NSay, 64), api.ErrArg)
	refuses(t, w, at(net.NDouble, 256), api.ErrArg)
	refuses(t, w, net.Step{Kind: net.NForge, At: -1}, api.ErrArg)
	tells(t, w, at(net.NSay, 1), 256)     // it is ended, and says nothing
	tells(t, w, at(net.NDeliver, 0), 256) // the answer has room
	tells(t, w, at(net.NLose, 255), 255)
	tells(t, w, at(net.NDouble, 254), 256)
}

// P27.1: the chapter's first example.
func TestExample(t *testing.T) {
	w := net.New(2, nil)
	first := commit(t, w, 0, "hi")
	begins(t, w, fetch(1, 0, "n0."), 0)
	for range 12 {
		if got := w.Do(at(net.NTurn, 0)); got.N == 1 {
			ended(t, w, 0, api.OK)
		} else {
			open(t, w, 0)
		}
	}
	ended(t, w, 0, api.OK)
	tells(t, w, at(net.NTurn, 0), 1) // once more, and nothing is done
	is(t, w, 1, "n0.main", first)
	is(t, w, 1, "main", api.Id{})
	if w.Flight() != 0 || w.Sessions() != 1 {
		t.Errorf("%d, %d", w.Flight(), w.Sessions())
	}
	if got := do(t, w, 1, api.Command{Kind: api.CCheckout, Name: "n0.main"}); got.Id != first || !slices.Equal(got.Files, []api.File{{Path: "a", Bytes: "hi"}}) {
		t.Errorf("%+v", got)
	}
}

// P27.1: commands, each done by its node alone; their errors are told.
func TestDo(t *testing.T) {
	w := net.New(3, nil)
	first := commit(t, w, 1, "x")
	is(t, w, 0, "main", api.Id{})
	is(t, w, 1, "main", first)
	for _, c := range []api.Command{{Kind: api.CCheckout}, {Kind: api.CRefs}, {Kind: api.CBlame, Other: "a"}, {Kind: api.CLog}, {Kind: api.CDrop, Name: "nope"}, {}, {Kind: 99}} {
		for node := range 3 {
			want := w.Repo(node).Do(c)
			got := w.Do(net.Step{Kind: net.NDo, Node: node, At: 9, Other: node, Command: c})
			if !reflect.DeepEqual(got, net.Told{Answer: want}) {
				t.Errorf("%+v: %+v; want %+v", c, got, want)
			}
		}
	}
	w.Repo(2).Do(api.Command{Kind: api.CCommit, Files: []api.File{{Path: "b"}}, Author: "Bob"}) // what is handed out is the node's own
	if got := do(t, w, 2, api.Command{Kind: api.CCheckout}); !slices.Equal(got.Files, []api.File{{Path: "b"}}) {
		t.Errorf("%+v", got)
	}
}

// sized is an object's bytes, just so many, another one for each number.
func sized(t *testing.T, n, size int) []byte {
	t.Helper()
	const head, few = 7, 200 // bytes ahead of a long text; what would be too few for one more
	o := api.Object{Kind: api.KChange, Change: api.Change{Time: 128 + n, Author: "Ann", Ops: []api.Op{{Kind: api.OCreate, Path: "a"}}}}
	b, _ := object.Encode(o)
	left := size - len(b)
	for left > few {
		text := min(left-head, api.MaxFile)
		if rest := left - head - text; 0 < rest && rest <= few {
			text -= few
		}
		o.Change.Ops = append(o.Change.Ops, api.Op{Kind: api.OInsert, Text: strings.Repeat("x", text)})
		left -= head + text
	}
	o.Change.Ops[0].Path += strings.Repeat("a", left)
	b, e := object.Encode(o)
	if e != api.OK || len(b) != size {
		t.Fatalf("%d bytes, error %d; want %d", len(b), e, size)
	}
	return b
}

// P27.1: each node has 2^24 bytes.
func TestQuota(t *testing.T) {
	const small = 50
	w := net.New(2, nil)
	for node := range 2 {
		take := func(n, size int, e api.Errno) {
			t.Helper()
			if a := w.Repo(node).Take([][]byte{sized(t, n, size)}); a.Error != e {
				t.Fatalf("%d: error %d; want %d", n, a.Error, e)
			}
		}
		for i := range 63 {
			take(i, api.MaxObject, api.OK)
		}
		take(63, api.MaxObject-small, api.OK)
		take(64, small+1, api.ErrNoSpace)
		take(65, small, api.OK)
		for range 2 {
			told := w.Do(net.Step{Kind: net.NDo, Node: node, Command: api.Command{Kind: api.CCommit, Files: []api.File{{Path: "a"}}, Author: "Ann"}})
			if told.Answer.Error != api.ErrNoSpace {
				t.Fatalf("%+v", told)
			}
			tells(t, w, net.Step{Kind: net.NCrash, Node: node}, 0)
		}
		is(t, w, node, "main", api.Id{})
		do(t, w, node, api.Command{Kind: api.CGc}) // none of them is reached
		commit(t, w, node, "x")
	}
}

// P27.1: a crash takes its fates: what was removed last comes back, as they have it.
func TestFates(t *testing.T) {
	for back, fates := range map[bool][]int{true: {0}, false: {1}} {
		w := net.New(2, nil)
		for node := range 2 {
			commit(t, w, node, "x")
			do(t, w, node, api.Command{Kind: api.CGc})
			w.Repo(node).Take([][]byte{sized(t, 1, 40)})
			do(t, w, node, api.Command{Kind: api.CGc}) // its last act: what is not reached is removed
		}
		for node := range 2 {
			id := sha.Sum(sized(t, 1, 40))
			_, gone := w.Repo(node).Object(id)
			tells(t, w, net.Step{Kind: net.NCrash, Node: node, Fates: fates}, 0)
			if _, e := w.Repo(node).Object(id); gone != api.ErrMissing || (e == api.OK) != back {
				t.Errorf("%d: error %d, %d", fates, gone, e)
			}
		}
	}
}

// P27.1: what flies is a list: what is said, and what a server answers, goes last.
func TestFlight(t *testing.T) {
	w := net.New(3, nil)
	first, second := commit(t, w, 1, "one"), commit(t, w, 2, "two")
	begins(t, w, fetch(0, 1, "x."), 0)
	begins(t, w, fetch(0, 2, "y."), 1)
	tells(t, w, at(net.NSay, 0), 1)     // hello 0
	tells(t, w, at(net.NSay, 1), 2)     // hello 1
	tells(t, w, at(net.NDeliver, 0), 2) // hello 1, refs 0
	tells(t, w, at(net.NDouble, 1), 3)  // hello 1, refs 0, refs 0
	tells(t, w, at(net.NDeliver, 1), 2) // hello 1, refs 0
	tells(t, w, at(net.NSay, 0), 3)     // hello 1, refs 0, want 0
	tells(t, w, at(net.NDeliver, 0), 3) // refs 0, want 0, refs 1
	tells(t, w, at(net.NDeliver, 2), 2) // refs 0, want 0
	tells(t, w, at(net.NSay, 1), 3)     // refs 0, want 0, want 1
	tells(t, w, at(net.NDeliver, 2), 3) // refs 0, want 0, head 1
	tells(t, w, at(net.NDeliver, 2), 2) // refs 0, want 0
	tells(t, w, at(net.NSay, 1), 3)     // refs 0, want 0, ask 1
	tells(t, w, at(net.NDeliver, 2), 3) // refs 0, want 0, piece 1
	tells(t, w, at(net.NDeliver, 2), 2) // refs 0, want 0
	open(t, w, 1)
	turns(t, w, 1, api.OK) // the other pieces
	is(t, w, 0, "y.main", second)
	tells(t, w, at(net.NDeliver, 0), 1) // want 0: refs are not heard any more
	open(t, w, 0)
	tells(t, w, at(net.NDouble, 0), 2)  // want 0, want 0
	tells(t, w, at(net.NLose, 0), 1)    // want 0
	tells(t, w, at(net.NDeliver, 0), 1) // head 0
	tells(t, w, at(net.NDouble, 0), 2)  // head 0, head 0
	tells(t, w, at(net.NDeliver, 0), 1) // head 0
	pieces := turns(t, w, 0, api.OK)
	is(t, w, 0, "x.main", first)
	if b, _ := w.Repo(1).Bundle([]api.Id{first}, nil, nil); pieces != (len(b)+255)/256 { // one a turn, hello and want being said already
		t.Errorf("%d turns, %d bytes", pieces, len(b))
	}
	tells(t, w, at(net.NSay, 0), 1)     // head 0: it is ended
	tells(t, w, at(net.NDeliver, 0), 0) // nothing is answered to that
	if w.Flight() != 0 || w.Sessions() != 2 {
		t.Errorf("%d, %d", w.Flight(), w.Sessions())
	}
}

// bytes is a message's bytes.
func bytes(t *testing.T, m api.Message) []byte {
	t.Helper()
	b, e := wire.Encode(m)
	if e != api.OK {
		t.Fatalf("%+v may not be", m)
	}
	return b
}

// P27.1: what is forged goes to the one, or to the other.
func TestForge(t *testing.T) {
	w := net.New(2, nil)
	first := commit(t, w, 0, "x")
	begins(t, w, fetch(1, 0, "n."), 0)
	begins(t, w, push(1, 0, "main"), 1)
	forge := func(session int, b []byte, back bool) net.Step {
		return net.Step{Kind: net.NForge, At: session, Bytes: b, Force: back}
	}
	for n, b := range [][]byte{nil, {}, {0}, []byte("noise"), bytes(t, api.Message{Kind: api.MDone, Code: api.ErrArg})} { // none answers, nor hears these
		tells(t, w, forge(0, b, n%2 == 0), 1)
		tells(t, w, at(net.NDeliver, 0), 0)
	}
	hello := bytes(t, api.Message{Kind: api.MHello, Session: 1})
	tells(t, w, forge(0, hello, false), 1) // the server answers session 1; who hears that is the client of session 0
	tells(t, w, at(net.NDeliver, 0), 1)
	tells(t, w, at(net.NDeliver, 0), 0)
	open(t, w, 0)
	open(t, w, 1)
	tells(t, w, forge(1, hello, false), 1) // in its own session it is heard
	tells(t, w, at(net.NDeliver, 0), 1)
	tells(t, w, at(net.NDeliver, 0), 0)
	ended(t, w, 1, api.ErrNone)
	refs := bytes(t, api.Message{Kind: api.MRefs})
	tells(t, w, forge(0, refs, false), 1) // a server does not answer that
	tells(t, w, at(net.NDeliver, 0), 0)
	open(t, w, 0)
	tells(t, w, forge(0, refs, true), 1) // a client hears it: there is nothing to fetch
	refs[0], refs[2] = 9, 9              // it is a copy that flies
	tells(t, w, at(net.NDeliver, 0), 0)
	ended(t, w, 0, api.OK)
	is(t, w, 1, "n.main", api.Id{})
	// a push that nobody has begun
	tells(t, w, forge(0, bytes(t, api.Message{Kind: api.MPush, Name: "forged", New: first, Id: sha.Sum()}), false), 1)
	tells(t, w, at(net.NDeliver, 0), 1) // of no bytes, which are no pack
	is(t, w, 0, "forged", api.Id{})
}

// P27.1: a push, by force and without it.
func TestPush(t *testing.T) {
	w := net.New(2, []int{1})
	first := commit(t, w, 0, "one")
	begins(t, w, push(0, 1, "main"), 0)
	turns(t, w, 0, api.OK)
	is(t, w, 1, "main", first)
	second, other := commit(t, w, 0, "one two"), commit(t, w, 1, "other")
	begins(t, w, push(0, 1, "main"), 1)
	turns(t, w, 1, api.ErrBehind)
	is(t, w, 1, "main", other)
	x := push(0, 1, "main")
	x.Force = true
	begins(t, w, x, 2)
	turns(t, w, 2, api.OK)
	is(t, w, 1, "main", second)
	begins(t, w, push(0, 1, "nope"), 3)
	turns(t, w, 3, api.ErrNone)
	x.Kind = net.NFetch // Force is not a fetch's: it does what it does
	begins(t, w, x, 4)
	turns(t, w, 4, api.OK)
	is(t, w, 0, "mainmain", second)
}

// P27.1: behind a crash a client is a new one, and a server; what flies goes on flying.
func TestCrash(t *testing.T) {
	w := net.New(3, nil)
	first := commit(t, w, 0, strings.Repeat("one ", 200))
	begins(t, w, fetch(1, 0, "f."), 0)
	tells(t, w, at(net.NTurn, 0), 0)
	tells(t, w, at(net.NTurn, 0), 0) // it is pulling now
	begins(t, w, fetch(2, 0, "f."), 1)
	n := turns(t, w, 1, api.OK)
	x := push(0, 1, "main")
	x.Force = true
	begins(t, w, x, 2)
	tells(t, w, at(net.NTurn, 2), 0)
	tells(t, w, at(net.NSay, 2), 1)
	tells(t, w, at(net.NDouble, 0), 2)
	was := [3]*repo.Repo{w.Repo(0), w.Repo(1), w.Repo(2)}
	tells(t, w, net.Step{Kind: net.NCrash, Node: 1, Fates: []int{5, -5, 5}}, 0) // a fetching client, a server
	if w.Repo(1) == was[1] || w.Repo(0) != was[0] || w.Flight() != 2 || w.Sessions() != 3 {
		t.Errorf("%d messages, %d sessions", w.Flight(), w.Sessions())
	}
	ended(t, w, 1, api.OK)
	if turns(t, w, 0, api.OK) != n { // as many as from the beginning on
		t.Error("it went on")
	}
	is(t, w, 1, "f.main", first)
	tells(t, w, at(net.NDeliver, 0), 2) // the push, which the new server hears
	tells(t, w, at(net.NDeliver, 1), 1)
	for w.Do(at(net.NTurn, 2)).N == 0 {
	}
	ended(t, w, 2, api.OK)
	is(t, w, 1, "main", first)
	tells(t, w, net.Step{Kind: net.NCrash, Node: 0}, 0) // a pushing one; it is open again
	open(t, w, 2)
	ended(t, w, 0, api.OK) // node 1's
	second := commit(t, w, 1, "other")
	turns(t, w, 2, api.OK) // by force, as before
	is(t, w, 1, "main", first)
	if second == first {
		t.Error("the same")
	}
	fates := []int{math.MinInt, math.MaxInt, 3}
	tells(t, w, net.Step{Kind: net.NCrash, Node: 2, Fates: fates[:2]}, 0)
	if !slices.Equal(fates, []int{math.MinInt, math.MaxInt, 3}) {
		t.Errorf("%d", fates)
	}
	open(t, w, 1)
	is(t, w, 2, "f.main", first)
	if turns(t, w, 1, api.OK) != 1 { // it has all of that
		t.Error("more than one turn")
	}
}

// P27.1: a server that is a new one has no pack that goes out.
func TestCrashServer(t *testing.T) {
	w := net.New(2, nil)
	first := commit(t, w, 0, strings.Repeat("one ", 200))
	begins(t, w, fetch(1, 0, ""), 0)
	for range 3 {
		tells(t, w, at(net.NTurn, 0), 0)
	}
	tells(t, w, at(net.NSay, 0), 1)
	tells(t, w, net.Step{Kind: net.NCrash, Node: 0}, 0)
	tells(t, w, at(net.NDeliver, 0), 1) // an ask, answered with ErrState
	tells(t, w, at(net.NDeliver, 0), 0)
	open(t, w, 0)
	begins(t, w, fetch(1, 0, "f."), 1)
	if n, all := turns(t, w, 0, api.OK), turns(t, w, 1, api.OK); n < 4 || all != 1 {
		t.Errorf("%d turns, %d", n, all)
	}
	is(t, w, 1, "main", first)
}

// P27.1, R4: the net's choices are those of the packs that go out, and that are pushed, whatever becomes of the list.
func TestChoices(t *testing.T) {
	took := map[int]int{}
	for _, choices := range [][]int{nil, {0, 1}, {1}, {5, 4, 3}} {
		for _, x := range []net.Step{fetch(1, 0, ""), push(0, 1, "main")} {
			own := slices.Clone(choices)
			w := net.New(2, own)
			for i := range own {
				own[i] = 2
			}
			for i := range 12 {
				text := strings.Repeat("a long line of words that stay as they are\n", 8)
				do(t, w, 0, api.Command{Kind: api.CCommit, Files: []api.File{{Path: strconv.Itoa(i), Bytes: text}}})
			}
			b, e := w.Repo(0).Bundle([]api.Id{branch(w, 0, "main")}, nil, choices)
			begins(t, w, x, 0)
			n := turns(t, w, 0, api.OK)
			if want := 2 + (len(b)+255)/256; e != api.OK || n != want {
				t.Errorf("%d: %d turns; want %d", choices, n, want)
			}
			took[n]++
		}
	}
	if len(took) < 3 {
		t.Errorf("choices make nothing unlike: %d", took)
	}
}

// from is a prefix so long that what has it already can't have another one.
func from(node int) string { return "node-" + strconv.Itoa(node) + "-told-this." }

// P27.2, P3: when all nodes have fetched from all others, one has merged all, and the others have fetched and merged that, all have the same commit.
func TestTogether(t *testing.T) {
	for nodes := 2; nodes <= 6; nodes++ {
		w := net.New(nodes, []int{0, 1, 2})
		commit(t, w, 0, "one\ntwo\nthree\n")
		session := 0
		fetches := func(node, other int) {
			t.Helper()
			begins(t, w, fetch(node, other, from(other)), session)
			turns(t, w, session, api.OK)
			session++
		}
		for node := 1; node < nodes; node++ {
			if node%2 == 1 { // some go on from there, some begin by themselves
				fetches(node, 0)
				do(t, w, node, api.Command{Kind: api.CBranch, Name: "main", Other: from(0) + "main"})
			}
			commit(t, w, node, "one\ntwo of "+strconv.Itoa(node)+"\nthree\n")
		}
		commit(t, w, 0, "one\ntwo\nthree and four\n")
		for node := range nodes {
			for other := range nodes {
				if node != other {
					fetches(node, other)
				}
			}
		}
		merge := func(node, other int) {
			t.Helper()
			do(t, w, node, api.Command{Kind: api.CMerge, Name: from(other) + "main", Note: "both", Stamp: 9})
		}
		for other := 1; other < nodes; other++ {
			merge(0, other)
		}
		want := do(t, w, 0, api.Command{Kind: api.CCheckout})
		for node := 1; node < nodes; node++ {
			fetches(node, 0)
			merge(node, 0)
			if got := do(t, w, node, api.Command{Kind: api.CCheckout}); !reflect.DeepEqual(got, want) {
				t.Errorf("node %d of %d: %+v; want %+v", node, nodes, got, want)
			}
			is(t, w, node, "main", want.Id)
		}
		all := do(t, w, 0, api.Command{Kind: api.CLog}).Lines
		if len(all) != 2+nodes-1+nodes-1 {
			t.Errorf("%d nodes: %q", nodes, all)
		}
	}
}

// P3: merges that are made either way have the same id.
func TestEitherWay(t *testing.T) {
	w := net.New(2, nil)
	first, second := commit(t, w, 0, "one"), commit(t, w, 1, "two")
	var merged []api.Id
	for node := range 2 {
		begins(t, w, fetch(node, 1-node, "n."), node)
		turns(t, w, node, api.OK)
	}
	for node := range 2 {
		merged = append(merged, do(t, w, node, api.Command{Kind: api.CMerge, Name: "n.main", Note: "both", Stamp: 3}).Id)
	}
	if merged[0] != merged[1] || slices.Contains([]api.Id{first, second}, merged[0]) || len(order.Set(merged)) != 1 {
		t.Errorf("%x", merged)
	}
}
