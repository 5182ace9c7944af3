package net_test

import (
	"math/rand"
	"reflect"
	"slices"
	"strconv"
	"strings"
	"testing"

	"variorum/api"
	"variorum/net"
	"variorum/order"
	"variorum/refs"
	"variorum/session"
	"variorum/sha"
	"variorum/wire"
)

// world is a net, and a plain one to which the same is done.
type world struct {
	*rand.Rand
	t      *testing.T
	net    *net.Net
	plain  *plain
	nodes  int
	seen   []api.Id // commits
	forced bool     // some push by force
	met    map[string]int
}

func pick[T any](r *rand.Rand, l ...T) T { return l[r.Intn(len(l))] }

func newWorld(t *testing.T, seed int64, met map[string]int) *world {
	w := &world{Rand: rand.New(rand.NewSource(seed)), t: t, seen: []api.Id{{1}}, met: met, forced: seed%2 == 0}
	w.nodes = 1 + w.Intn(6)
	choices := w.numbers()
	w.net, w.plain = net.New(w.nodes, choices), newPlain(w.nodes, choices)
	for range w.Intn(2 * w.nodes) {
		w.step(net.NDo)
	}
	for node := 1; node < w.nodes; node++ { // some have what node 0 has
		if w.Intn(2) == 0 {
			w.peace(w.both(fetch(node, 0, "")).N)
		}
	}
	for range w.Intn(10) {
		w.step(pick(w.Rand, net.NFetch, net.NPush))
	}
	return w
}

func (w *world) numbers() (l []int) {
	for range w.Intn(4) {
		l = append(l, w.Intn(9)-2)
	}
	return l
}

// place is mostly one of a list of so many.
func (w *world) place(n int) int {
	if n == 0 || w.Intn(25) == 0 {
		return w.Intn(n+5) - 2
	}
	return w.Intn(n)
}

// command is something that a repository does.
func (w *world) command() api.Command {
	names := []string{"main", "dev", "n.main", "v", ""}
	c := api.Command{Author: "Ann", Note: "n", Stamp: w.Intn(50), Name: pick(w.Rand, names...), Other: pick(w.Rand, names...), Choices: w.numbers()}
	c.Kind = pick(w.Rand, api.CCommit, api.CCommit, api.CCommit, api.CMerge, api.CMerge, api.CBranch, api.CTag, api.CSwitch, api.CSwitch, api.CPick, api.CDrop, api.CUntag, api.CLog, api.CBlame, api.CReflog, api.CStatus, api.CDiff, api.CRefs, api.CGc, api.CRepack, 0)
	for _, path := range []string{"a", "b"} {
		if w.Intn(2) == 0 {
			c.Files = append(c.Files, api.File{Path: path, Bytes: strings.Repeat(strconv.Itoa(w.Intn(3000))+"\n", w.Intn(100))})
		}
	}
	return c
}

// forged is some message, or what is none.
func (w *world) forged() []byte {
	m := api.Message{Kind: uint8(1 + w.Intn(8)), Session: w.place(w.net.Sessions())}
	id, other := pick(w.Rand, w.seen...), pick(w.Rand, w.seen...)
	switch m.Kind {
	case api.MRefs:
		m.Refs = []api.Update{{Kind: api.RBranch, Name: "main", New: id}, {Kind: api.RTag, Name: "v", New: other}}
	case api.MWant:
		m.Wants, m.Haves = order.Set([]api.Id{id}), order.Set([]api.Id{other})
	case api.MHead:
		m.Size, m.Id = w.Intn(3)*100, sha.Sum()
	case api.MAsk:
		m.At = w.Intn(9) * 256
	case api.MPiece:
		m.At, m.Bytes = w.Intn(3)*256, []byte("forged")
	case api.MPush:
		m.Name, m.Old, m.New, m.Force = pick(w.Rand, "main", "dev"), pick(w.Rand, api.Id{}, id), other, w.forced && w.Intn(2) == 0
		m.Size, m.Id = w.Intn(2)*1062, sha.Sum()
	case api.MDone:
		m.Code = api.Errno(w.Intn(23))
	}
	b, _ := wire.Encode(m)
	if len(b) > 0 && w.forced && w.Intn(4) == 0 { // that may make a push one by force
		b[w.Intn(len(b))]++
	}
	return b
}

// step does a step of a kind to both nets, which must tell the same.
func (w *world) step(kind uint8) net.Told {
	w.t.Helper()
	x := net.Step{Kind: kind, Node: w.place(w.nodes), Other: w.place(w.nodes), At: w.place(w.net.Sessions())}
	switch kind {
	case net.NDo:
		x.Command = w.command()
	case net.NFetch:
		x.Name = pick(w.Rand, "", "n.", "m.", strings.Repeat("p", 28), strings.Repeat("p", 32+w.Intn(2)))
	case net.NPush:
		x.Name, x.Force = pick(w.Rand, "main", "dev", "nope", "n.main", strings.Repeat("p", 32+w.Intn(2))), w.forced && w.Intn(2) == 0
	case net.NDeliver, net.NLose, net.NDouble:
		x.At = w.place(w.net.Flight())
	case net.NForge:
		x.Bytes, x.Force = w.forged(), w.Intn(2) == 0
	case net.NCrash:
		x.Fates = w.numbers()
	}
	return w.both(x)
}

// both does a step to both nets.
func (w *world) both(x net.Step) net.Told {
	w.t.Helper()
	got, want := w.net.Do(x), w.plain.do(x)
	if !reflect.DeepEqual(got, want) {
		w.t.Fatalf("%+v: %+v; want %+v", x, got, want)
	}
	if w.net.Flight() != len(w.plain.flight) || w.net.Sessions() != len(w.plain.begun) {
		w.t.Fatalf("%+v: %d, %d", x, w.net.Flight(), w.net.Sessions())
	}
	w.met[strconv.Itoa(int(x.Kind))+" "+strconv.Itoa(int(got.Answer.Error))]++
	if id := got.Answer.Id; got.Answer.Error == api.OK && id != (api.Id{}) && !slices.Contains(w.seen, id) {
		w.seen = append(w.seen, id)
	}
	return got
}

// same fails, unless both nets are as one another.
func (w *world) same() {
	w.t.Helper()
	for node := range w.nodes {
		if got, want := w.net.Repo(node).Refs(), w.plain.repos[node].Refs(); !reflect.DeepEqual(got, want) {
			w.t.Fatalf("node %d: %+v; want %+v", node, got, want)
		}
	}
	for number := range w.net.Sessions() {
		a, over := w.net.Ended(number)
		b, wants := w.plain.clients[number].Ended()
		if over != wants || !reflect.DeepEqual(a, b) {
			w.t.Fatalf("session %d: %+v, %t; want %+v, %t", number, a, over, b, wants)
		}
	}
}

// sound fails, unless each repository is (P26.3): what is reached is there and has its id as its sum, refs are at whole commits, branches were pushed on alone, but by force.
func (w *world) sound() {
	w.t.Helper()
	for node := range w.nodes {
		r := w.net.Repo(node)
		set, e := r.Reach(refs.Roots(r.Refs()))
		if e != api.OK {
			w.t.Fatalf("node %d: error %d", node, e)
		}
		for _, id := range set {
			if b, e := r.Object(id); e != api.OK || sha.Sum(b) != id {
				w.t.Fatalf("node %d: %x: error %d", node, id, e)
			}
		}
		for _, entry := range r.Refs().Log {
			if entry.Note != "push" || entry.Old == (api.Id{}) {
				continue
			}
			past, _ := r.Past(entry.New)
			on := slices.Contains(past, entry.Old)
			if !on && !w.forced {
				w.t.Fatalf("node %d: %+v", node, entry)
			}
			w.met["pushed on "+strconv.FormatBool(on)]++
		}
	}
}

// peace gives a session turns till it is ended, which is behind so many as P26.2 tells.
func (w *world) peace(number int) {
	w.t.Helper()
	all := map[api.Id]int{}
	bytes := 0
	for node := range w.nodes { // what was collected since a pack went out counts, too: so twice as much has room
		r := w.net.Repo(node)
		set, _ := r.Reach(refs.Roots(r.Refs()))
		for _, id := range set {
			b, _ := r.Object(id)
			all[id] = len(b)
		}
	}
	for _, n := range all {
		bytes += n
	}
	most := session.Turns(2*len(all)+100, 2*bytes+10000)
	for range most {
		if w.both(at(net.NTurn, number)).N == 1 {
			a, _ := w.net.Ended(number)
			w.met["ended "+strconv.Itoa(int(a.Error))]++
			return
		}
	}
	w.t.Fatalf("session %d is not ended behind %d turns", number, most)
}

// P27.1, P27.2, P6: random steps, each told as a plain net tells it; whatever they are, the repositories are sound, and sessions that are left in peace are ended.
func TestSteps(t *testing.T) {
	met := map[string]int{}
	for seed := range int64(250) {
		w := newWorld(t, seed, met)
		heard := pick(w.Rand, 0, 5, 20, 40) // how often something is: where that is seldom, the flight gets full
		for i := range 500 {
			switch n := w.Intn(40 + heard); {
			case n < 2:
				w.step(pick(w.Rand, net.NFetch, net.NPush))
			case n < 5:
				w.step(net.NDo)
			case n < 6:
				w.step(pick(w.Rand, net.NCrash, net.NTurn, 0, 11, 255))
			case n < 7:
				if x := w.step(net.NPush); x.Answer.Error == api.OK {
					w.peace(x.N)
				}
			case n < 9:
				w.step(net.NLose)
			case n < 22:
				w.step(pick(w.Rand, net.NForge, net.NDouble))
			case n < 37:
				w.step(net.NSay)
			case n < 40:
				w.step(pick(w.Rand, net.NDeliver, net.NTurn))
			default:
				w.step(net.NDeliver)
			}
			if i%100 == 99 {
				w.same()
				w.sound()
			}
		}
		for number := range w.net.Sessions() {
			w.peace(number)
		}
		w.same()
		w.sound()
	}
	for _, what := range []string{"1 0", "1 4", "2 0", "2 1", "3 0", "4 0", "4 1", "4 3", "5 0", "5 1", "6 0", "7 0", "7 3", "8 0", "8 1", "8 3", "9 0", "10 0", "0 1", "11 1", "ended 0", "ended 4", "ended 14", "pushed on true", "pushed on false"} {
		if met[what] < 10 {
			t.Errorf("%s: %d times", what, met[what])
		}
	}
}
