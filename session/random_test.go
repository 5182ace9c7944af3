package session_test

import (
	"crypto/sha256"
	"math/rand"
	"slices"
	"strconv"
	"strings"
	"testing"

	"variorum/api"
	"variorum/disk"
	"variorum/order"
	"variorum/pack"
	"variorum/refs"
	"variorum/repo"
	"variorum/session"
	"variorum/vault"
	"variorum/wire"
)

// node is a repository on a disk, and its server.
type node struct {
	disk   *disk.Disk
	repo   *repo.Repo
	server *session.Server
}

// talk is a client of one node, and the node whose server it asks.
type talk struct {
	own, other int
	begin      func(r *repo.Repo) *session.Client
	client     *session.Client
	fetches    bool
	name       string         // the prefix, or the branch
	gone       map[api.Id]int // how many bytes the objects had that the server had when a pack went out
}

// flying is bytes on their way, to a server or back.
type flying struct {
	talk int
	back bool
	b    []byte
}

// world is nodes, and what goes between them.
type world struct {
	*rand.Rand
	t      *testing.T
	nodes  []*node
	talks  []*talk
	flight []flying
	seen   []api.Id
	forced bool // some push by force
	met    map[string]int
}

func pick[T any](r *rand.Rand, l []T) T { return l[r.Intn(len(l))] }

func newWorld(t *testing.T, seed int64, met map[string]int) *world {
	r := rand.New(rand.NewSource(seed))
	w := &world{Rand: r, t: t, seen: []api.Id{{1}, {2}}, forced: r.Intn(2) == 0, met: met}
	for range 3 {
		d := disk.New(ample)
		n := &node{disk: d}
		w.nodes = append(w.nodes, n)
		w.open(n)
		for range w.Intn(3) {
			w.work(n)
		}
	}
	for i := range 8 {
		w.begin(i)
	}
	return w
}

// open opens a node's repository, and has a new server.
func (w *world) open(n *node) {
	r, e := repo.Open(n.disk)
	if e != api.OK {
		w.t.Fatalf("Open: error %d", e)
	}
	n.repo, n.server = r, session.Serve(r, w.numbers())
}

func (w *world) numbers() (l []int) {
	for range w.Intn(4) {
		l = append(l, w.Intn(5))
	}
	return l
}

// begin begins a session.
func (w *world) begin(n int) {
	own := w.Intn(3)
	one := &talk{own: own, other: (own + 1 + w.Intn(2)) % 3, fetches: w.Intn(2) == 0, gone: map[api.Id]int{}}
	if one.fetches {
		one.name = pick(w.Rand, []string{"", "n.", "m.", strings.Repeat("p", 29)})
		one.begin = func(r *repo.Repo) *session.Client { return session.Fetch(r, n, one.name) }
	} else {
		one.name = pick(w.Rand, []string{"main", "dev", "n.main"})
		force, choices := w.forced && w.Intn(2) == 0, w.numbers()
		one.begin = func(r *repo.Repo) *session.Client { return session.Push(r, n, one.name, force, choices) }
	}
	one.client = one.begin(w.nodes[own].repo)
	w.talks = append(w.talks, one)
}

// text is some words.
func (w *world) text() string {
	var s string
	for range w.Intn(120) {
		s += strconv.Itoa(w.Intn(3000)) + "\n"
	}
	return s
}

// work has a node do something.
func (w *world) work(n *node) {
	names := []string{"main", "dev", "n.main", "v", ""}
	c := api.Command{Author: "Ann", Note: "n", Stamp: w.Intn(50), Name: pick(w.Rand, names), Other: pick(w.Rand, names)}
	c.Kind = pick(w.Rand, []uint8{api.CCommit, api.CCommit, api.CMerge, api.CMerge, api.CBranch, api.CTag, api.CSwitch, api.CSwitch, api.CPick, api.CDrop, api.CUntag, api.CGc, api.CRepack})
	c.Files = []api.File{{Path: pick(w.Rand, []string{"a", "b"}), Bytes: w.text()}}
	c.Choices = w.numbers()
	id := n.repo.Do(c).Id
	if id != (api.Id{}) && !slices.Contains(w.seen, id) {
		w.seen = append(w.seen, id)
	}
}

// send puts bytes into the flight, if there are some.
func (w *world) send(f flying) {
	if f.b != nil && len(w.flight) < 40 {
		w.flight = append(w.flight, f)
	}
}

// serve has a talk's server hear something.
func (w *world) serve(one *talk, b []byte) []byte {
	other := w.nodes[one.other]
	a := other.server.Hear(b)
	if m, e := wire.Decode(a); a != nil && (e != api.OK || m.Kind == api.MHead) {
		one.gone = w.objects(other)
	}
	return a
}

// deliver delivers one of the flight, but sometimes it stays there, too.
func (w *world) deliver(lost bool) {
	if len(w.flight) == 0 {
		return
	}
	i := w.Intn(len(w.flight))
	f := w.flight[i]
	if w.Intn(6) > 0 {
		w.flight = slices.Delete(w.flight, i, i+1)
	}
	one := w.talks[f.talk]
	switch {
	case lost:
	case f.back:
		one.client.Hear(f.b)
	default:
		w.send(flying{f.talk, true, w.serve(one, f.b)})
	}
}

// forge puts something into the flight that none has said.
func (w *world) forge() {
	to := w.Intn(len(w.talks))
	f := flying{to, w.Intn(2) == 0, nil}
	if len(w.flight) > 0 && w.Intn(3) == 0 {
		f.b = slices.Clone(pick(w.Rand, w.flight).b)
		f.b[w.Intn(len(f.b))] += byte(1 + w.Intn(3))
	} else {
		f.b, _ = wire.Encode(w.message(to))
	}
	w.send(f)
}

// message is some message of a session.
func (w *world) message(n int) api.Message {
	m := api.Message{Kind: uint8(1 + w.Intn(8)), Session: n}
	size := pick(w.Rand, []int{0, 1, 36, 300, 1062, 2000, 1 << 20})
	switch m.Kind {
	case api.MRefs:
		m.Refs = wire.Of(pick(w.Rand, w.nodes).repo.Refs())
		for i := range m.Refs {
			if w.Intn(3) == 0 {
				m.Refs[i].New = pick(w.Rand, w.seen)
			}
		}
	case api.MWant:
		m.Wants, m.Haves = order.Set([]api.Id{pick(w.Rand, w.seen)}), order.Set([]api.Id{pick(w.Rand, w.seen)})
	case api.MHead:
		m.Size, m.Id = size, w.sum()
	case api.MAsk:
		m.At = w.Intn(9) * 256
	case api.MPiece:
		b := w.bytes()
		m.At = w.Intn(len(b)/256+1) * 256
		m.Bytes = b[min(m.At, len(b)-1):min(m.At+256, len(b))]
	case api.MPush:
		m.Name, m.Size, m.Id, m.New = pick(w.Rand, []string{"main", "dev", "f"}), size, w.sum(), pick(w.Rand, w.seen)
		m.Old = pick(w.Rand, append(slices.Clone(w.seen), api.Id{}))
		m.Force = w.forced && w.Intn(2) == 0
	case api.MDone:
		m.Code = api.Errno(w.Intn(23))
	}
	return m
}

// bytes is those of some pack, right or not.
func (w *world) bytes() []byte {
	var parts []pack.Part
	for _, text := range []string{"none", "K\x00\x00\x03Ann\x01m\x05"} {
		if w.Intn(2) == 0 {
			parts = append(parts, pack.Part{Bytes: []byte(text), Base: -1})
		}
	}
	b, _ := pack.Build(parts)
	if w.Intn(3) == 0 {
		b[w.Intn(len(b))]++
	}
	return b
}

func (w *world) sum() api.Id {
	if w.Intn(2) == 0 {
		return sha256.Sum256(nil)
	}
	return sha256.Sum256(w.bytes())
}

// crash lets a node's disk crash.
func (w *world) crash(i int) {
	n := w.nodes[i]
	n.disk.Crash([]int{w.Intn(50), w.Intn(50), w.Intn(50)})
	w.open(n)
	for _, one := range w.talks {
		if one.own == i {
			one.client = one.begin(n.repo)
		}
	}
}

func (w *world) step() {
	one := w.Intn(len(w.talks))
	switch w.Intn(24) {
	case 0:
		w.work(pick(w.Rand, w.nodes))
	case 1:
		w.forge()
	case 2:
		w.deliver(true)
	case 3:
		if w.Intn(10) == 0 {
			w.crash(w.Intn(3))
		}
	case 4, 5, 6, 7, 8, 9, 10:
		w.send(flying{one, false, w.talks[one].client.Say()})
	case 11, 12, 13:
		if b := w.talks[one].client.Say(); b != nil {
			w.talks[one].client.Hear(w.serve(w.talks[one], b))
		}
	case 14:
		if _, over := w.talks[one].client.Ended(); over {
			w.talks[one].client = w.talks[one].begin(w.nodes[w.talks[one].own].repo)
		}
	default:
		w.deliver(false)
	}
}

// objects is how many bytes each object has that is there; each has its id as its sum.
func (w *world) objects(n *node) map[api.Id]int {
	v, e := vault.Open(n.disk)
	if e != api.OK {
		w.t.Fatalf("error %d", e)
	}
	all := map[api.Id]int{}
	for _, id := range v.Ids() {
		b, e := n.repo.Object(id)
		if e != api.OK || sha256.Sum256(b) != id {
			w.t.Fatalf("%x: error %d, %q", id, e, b)
		}
		all[id] = len(b)
	}
	return all
}

// sound fails, unless each repository is: its refs are at whole commits, and branches were pushed on alone, but by force.
func (w *world) sound() {
	w.t.Helper()
	for _, n := range w.nodes {
		w.objects(n)
		for _, id := range refs.Roots(n.repo.Refs()) {
			if _, e := n.repo.Past(id); e != api.OK {
				w.t.Fatalf("%x: error %d", id, e)
			}
		}
		for _, entry := range n.repo.Refs().Log {
			past, _ := n.repo.Past(entry.New)
			on := entry.Old == api.Id{} || slices.Contains(past, entry.Old)
			if entry.Note == "push" {
				w.met["push"]++
			}
			if entry.Note == "push" && !on {
				w.met["force"]++
				if !w.forced {
					w.t.Fatalf("%+v", entry)
				}
			}
		}
	}
}

// peace leaves a session in peace, till its client is ended; then what was to come has come.
func (w *world) peace(one *talk) {
	w.t.Helper()
	own, other := w.nodes[one.own], w.nodes[one.other]
	all, bytes := w.objects(own), 0
	for _, more := range []map[api.Id]int{w.objects(other), one.gone} {
		for id, n := range more {
			all[id] = n
		}
	}
	for _, n := range all {
		bytes += n
	}
	if _, over := one.client.Ended(); over {
		return
	}
	says := read(w.t, one.client.Say()).Kind
	w.met["says "+strconv.Itoa(int(says))]++
	turns(w.t, one.client, other.server, session.Turns(len(all), bytes))
	a, _ := one.client.Ended()
	w.met[strconv.FormatBool(one.fetches)+" "+strconv.Itoa(int(a.Error))]++
	w.sound()
	if a.Error != api.OK {
		if one.fetches || a.Error != api.ErrNone && a.Error != api.ErrBehind {
			w.t.Fatalf("fetches %t: error %d", one.fetches, a.Error)
		}
		return
	}
	mine, theirs := told(own.repo), told(other.repo)
	if !one.fetches && says == api.MHello && at(mine, api.RBranch, one.name) != at(theirs, api.RBranch, one.name) {
		w.t.Fatalf("%s: %v, %v", one.name, mine, theirs)
	}
}

// at is where a branch or a tag is.
func at(l []api.Update, kind uint8, name string) api.Id {
	i := slices.IndexFunc(l, func(u api.Update) bool { return u.Kind == kind && u.Name == name })
	if i < 0 {
		return api.Id{}
	}
	return l[i].New
}

// P26.3: whatever is lost, doubled, forged, whichever disk crashes: repositories are sound; sessions that are left in peace from there on are ended within so many turns.
func TestAnything(t *testing.T) {
	met := map[string]int{}
	for seed := range int64(300) {
		w := newWorld(t, seed, met)
		for i := range 400 {
			w.step()
			if i%50 == 49 {
				w.sound()
				w.peace(pick(w.Rand, w.talks))
			}
		}
		for _, one := range w.talks {
			w.peace(one)
		}
	}
	for _, what := range []string{"true 0", "false 0", "false 4", "false 14", "push", "force", "says 1", "says 3", "says 5", "says 6", "says 7"} {
		if met[what] < 20 {
			t.Errorf("%s: %d times", what, met[what])
		}
	}
}

// P26.3, P6: what a fetch in peace brings is what the other one has, whatever was forged ahead.
func TestFetchAnything(t *testing.T) {
	met := map[string]int{}
	for seed := range int64(60) {
		w := newWorld(t, 1000+seed, met)
		for range 150 {
			w.step()
		}
		for i, n := range w.nodes {
			for other, from := range w.nodes {
				if i == other {
					continue
				}
				prefix := "z" + strconv.Itoa(other) + "."
				fetches(t, n.repo, from.repo, prefix, api.OK)
				for _, u := range told(from.repo) {
					mine := at(told(n.repo), u.Kind, prefix+u.Name)
					if len(prefix+u.Name) <= 32 && mine != u.New {
						t.Fatalf("%s: %x; want %x", u.Name, mine, u.New)
					}
				}
			}
		}
		w.sound()
	}
}
