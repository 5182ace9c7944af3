package repo_test

import (
	"maps"
	"math/rand"
	"reflect"
	"slices"
	"strings"
	"testing"

	"variorum/api"
	"variorum/disk"
	"variorum/object"
	"variorum/order"
	"variorum/refs"
	"variorum/repo"
	"variorum/weave"
)

// world is a repository, and a plain one of which the same was asked.
type world struct {
	*rand.Rand
	t     *testing.T
	disk  *disk.Disk
	repo  *repo.Repo
	plain *plain
	seen  []api.Id // all ids that there ever were, and some that there never are
	met   map[api.Errno]int
}

// newWorld is one in which two branches have parted, if there is room for that.
func newWorld(t *testing.T, r *rand.Rand, quota int) *world {
	d := disk.New(quota)
	w := &world{r, t, d, opened(t, d), newPlain(), []api.Id{{}, {1}}, map[api.Errno]int{}}
	for _, c := range []api.Command{
		{Kind: api.CCommit, Files: files("a", "one\ntwo\n", "b", "x"), Author: "Ann"},
		{Kind: api.CBranch, Name: "dev"},
		{Kind: api.CCommit, Files: files("a", "one\nTWO\n", "b", "x"), Author: "Bob"},
		{Kind: api.CSwitch, Name: "dev"},
		{Kind: api.CCommit, Files: files("a", "ONE\ntwo\n", "c/d", "y"), Author: "Ann", Stamp: 7},
	} {
		w.do(false, func(r *repo.Repo) api.Answer { return r.Do(c) }, func(p *plain) api.Answer { return p.do(c) })
	}
	return w
}

func pick[T any](r *rand.Rand, l []T) T { return l[r.Intn(len(l))] }

// id is some id, most times that of a commit.
func (w *world) id() api.Id {
	id := pick(w.Rand, w.seen)
	for range 3 {
		if _, ok := w.plain.object(id, api.KCommit); !ok {
			id = pick(w.Rand, w.seen)
		}
	}
	return id
}

func (w *world) someIds(n int) (l []api.Id) {
	for range w.Intn(n) {
		l = append(l, w.id())
	}
	return l
}

// name is one that may be at something.
func (w *world) name() string {
	if w.Intn(3) == 0 {
		return digits(w.id())
	}
	return pick(w.Rand, []string{"", "main", "dev", "x", "v1", "v2", ".bad", "nope"})
}

// there is a name that is at something, if there is one.
func (w *world) there() string {
	var l []string
	for _, n := range slices.Concat(w.plain.refs.Branches, w.plain.refs.Tags) {
		l = append(l, n.Name, digits(n.Id))
	}
	for _, e := range w.plain.refs.Log {
		l = append(l, digits(e.New))
	}
	return pick(w.Rand, append(l, "", ""))
}

func (w *world) numbers() (l []int) {
	for range w.Intn(5) {
		l = append(l, w.Intn(9)-2)
	}
	return l
}

// text is one that is a little like another one.
func (w *world) text(s string) string {
	runes := []rune(s)
	for range w.Intn(4) {
		i := w.Intn(len(runes) + 1)
		if w.Intn(3) == 0 && i < len(runes) {
			runes = slices.Delete(runes, i, min(len(runes), i+1+w.Intn(3)))
		} else {
			runes = slices.Insert(runes, i, []rune(pick(w.Rand, []string{"a", "b\n", "é", "\n", "ccc"}))...)
		}
	}
	return string(runes)
}

// files is what a state's may have become, and moves.
func (w *world) files(files []api.File) ([]api.File, [][2]string) {
	var l []api.File
	var moves [][2]string
	for _, f := range files {
		f.Bytes = w.text(f.Bytes)
		switch w.Intn(8) {
		case 0:
			continue
		case 1:
			to := pick(w.Rand, []string{"m", "n/o", "p"})
			moves = append(moves, [2]string{f.Path, to})
			f.Path = to
		}
		l = append(l, f)
	}
	if w.Intn(2) == 0 {
		l = append(l, api.File{Path: pick(w.Rand, []string{"a", "b", "c/d", "e", "c", ".."}), Bytes: w.text("one\ntwo\n")})
	}
	return l, moves
}

func (w *world) command() api.Command {
	kinds := []uint8{api.CCommit, api.CCommit, api.CCommit, api.CCommit, api.CMerge, api.CMerge, api.CPick, api.CPick, api.CSwitch, api.CSwitch, api.CBranch}
	kind := pick(w.Rand, kinds)
	if w.Intn(2) == 0 {
		kind = uint8(w.Intn(int(api.CRepack) + 2))
	}
	c := api.Command{Kind: kind, Name: w.there(), Other: w.there(), Author: pick(w.Rand, []string{"Ann", "Bob"}), Note: pick(w.Rand, []string{"", "a note", "x\ny"}), Stamp: w.Intn(12), Choices: w.numbers()}
	if kind == api.CBranch || kind == api.CTag {
		c.Name = pick(w.Rand, []string{"main", "dev", "x", "v1", "v2"})
	}
	if kind == api.CDrop || kind == api.CUntag {
		head := refs.Named{Name: w.plain.refs.Head} // which can't be dropped, if it is a branch
		c.Name = pick(w.Rand, slices.Concat(w.plain.refs.Branches, w.plain.refs.Tags, []refs.Named{head, head, head})).Name
	}
	switch w.Intn(20) {
	case 0:
		c.Author = ""
	case 1:
		c.Note = "\xff"
	case 2:
		c.Stamp = -1
	case 3, 4, 5:
		c.Name = w.name()
	case 6:
		c.Other = w.name()
	}
	if kind == api.CBlame {
		c.Other = pick(w.Rand, []string{"a", "b", "c/d", "m", "e"})
	}
	c.Files, c.Moves = w.files(w.plain.copy().do(api.Command{Kind: api.CCheckout}).Files)
	if w.Intn(4) == 0 {
		c.Moves = nil
	}
	return c
}

// brought is an object that may or may not go along with those that there are.
func (w *world) brought() []byte {
	o := joint(w.Intn(9), order.Minus(w.someIds(3), []api.Id{{}}), nil)
	o.Commit.Changes = order.Minus(w.someIds(3), []api.Id{{}})
	id := w.id()
	s, _ := w.plain.whole(id)
	if s != nil && w.Intn(2) == 0 {
		files, _ := w.files(s.Files())
		if c, e := weave.Import(s, files, nil, "Eve"); e == api.OK {
			o = api.Object{Kind: api.KChange, Change: c}
		}
	} else if s != nil && len(s.Ids()) > 0 && w.Intn(2) == 0 {
		o.Commit.Changes = order.Set([]api.Id{pick(w.Rand, s.Ids())})
	}
	b, _ := object.Encode(o)
	if w.Intn(20) == 0 {
		b = append(b, 0)
	}
	return b
}

func (w *world) updates() (l []api.Update) {
	for range 1 + w.Intn(2) {
		u := api.Update{Kind: uint8(1 + w.Intn(3)), Name: pick(w.Rand, []string{"main", "dev", "x", "v1", "new"}), New: w.id()}
		if u.Kind != api.RHead && w.Intn(2) == 0 {
			u.Old, _ = refs.Look(w.plain.refs, u.Name)
		}
		if u.Kind == api.RHead && w.Intn(2) == 0 {
			u.Name = ""
		}
		if w.Intn(8) == 0 {
			u.New = api.Id{}
		}
		l = append(l, u)
	}
	return l
}

// act asks something of the repository, and the same of a plain one.
func (w *world) act() (func(r *repo.Repo) api.Answer, func(p *plain) api.Answer) {
	switch w.Intn(10) {
	case 0:
		all := [][]byte{w.brought()}
		if w.Intn(2) == 0 {
			all = append(all, w.brought())
		}
		return func(r *repo.Repo) api.Answer { return r.Take(all) }, func(p *plain) api.Answer { return p.take(all) }
	case 1:
		l, note := w.updates(), pick(w.Rand, []string{"", "moved", "\xff"})
		return func(r *repo.Repo) api.Answer { return api.Answer{Error: r.Move(l, note)} }, func(p *plain) api.Answer { return api.Answer{Error: p.moveRefs(l, note)} }
	}
	c := w.command()
	return func(r *repo.Repo) api.Answer { return r.Do(c) }, func(p *plain) api.Answer { return p.do(c) }
}

// step does some act.
func (w *world) step(crashes bool) {
	do, plainly := w.act()
	w.do(crashes, do, plainly)
}

// do does an act, during which the disk may go down.
func (w *world) do(crashes bool, do func(r *repo.Repo) api.Answer, plainly func(p *plain) api.Answer) {
	after := w.plain.copy()
	want := plainly(after)
	w.meet(after)
	refused := w.disk.Refused()
	if crashes && w.Intn(3) == 0 {
		w.disk.Arm(1 + w.Intn(9))
	}
	got := do(w.repo)
	w.met[got.Error]++
	switch {
	case w.disk.Down():
		if !same(got, api.Answer{Error: api.ErrDown}) {
			w.t.Fatalf("%+v; the disk is down", got)
		}
		w.crash(after)
		return
	case got.Error == api.ErrNoSpace:
		if !same(got, api.Answer{Error: api.ErrNoSpace}) || w.disk.Refused() == refused {
			w.t.Fatalf("%+v; want %+v", got, want)
		}
		w.found()
	case !same(got, want):
		w.t.Fatalf("%+v; want %+v", got, want)
	default:
		w.plain = after
	}
	w.disk.Arm(0)
	w.stands(w.plain)
}

// meet has all of a plain repository's objects be seen: in order, not in that of a map, as what is drawn hangs on it.
func (w *world) meet(p *plain) {
	for _, id := range order.Set(slices.Collect(maps.Keys(p.objects))) {
		if !slices.Contains(w.seen, id) {
			w.seen = append(w.seen, id)
		}
	}
}

// crash lets the disk crash, and opens it anew, till it is open.
func (w *world) crash(after *plain) {
	for {
		var fates []int
		for range w.Intn(8) {
			fates = append(fates, pick(w.Rand, []int{0, -1, w.Intn(100)}))
		}
		w.disk.Crash(fates)
		if w.Intn(3) == 0 {
			w.disk.Arm(1 + w.Intn(3))
		}
		r, e := repo.Open(w.disk)
		if w.disk.Down() && e == api.ErrDown && r == nil {
			continue
		}
		if e != api.OK {
			w.t.Fatalf("Open: error %d", e)
		}
		w.disk.Arm(0)
		w.repo = r
		break
	}
	if reflect.DeepEqual(norm(w.repo.Refs()), norm(after.refs)) {
		w.plain.refs = after.refs
	}
	w.found()
	w.stands(w.plain)
	for _, root := range refs.Roots(w.plain.refs) {
		if s, _ := w.plain.whole(root); s == nil {
			w.t.Fatalf("%x is not whole", root)
		}
	}
}

// found has the plain repository's objects be those that are there by Object; what is there has its id as its sum.
func (w *world) found() {
	w.plain.objects = map[api.Id]string{}
	for _, id := range w.seen {
		if b, e := w.repo.Object(id); e == api.OK {
			if w.plain.put(b) != id {
				w.t.Fatalf("%x has another sum", id)
			}
		}
	}
}

// norm is refs with empty lists as a repository tells them.
func norm(r refs.Refs) refs.Refs {
	b, _ := refs.Encode(r)
	r, _ = refs.Decode(b)
	return r
}

// stands fails, unless the refs are the plain repository's.
func (w *world) stands(p *plain) {
	w.t.Helper()
	if got := norm(w.repo.Refs()); !reflect.DeepEqual(got, norm(p.refs)) {
		w.t.Fatalf("refs %+v; want %+v", got, p.refs)
	}
}

// asks asks what changes nothing.
func (w *world) asks() {
	for _, id := range w.seen {
		b, e := w.repo.Object(id)
		if want, ok := w.plain.objects[id]; string(b) != want || (e == api.OK) != ok {
			w.t.Fatalf("%x: %q, %d; want %q", id, b, e, want)
		}
		if got, want := w.repo.Known(id), w.plain.known(id); got != want {
			w.t.Fatalf("%x: known %t", id, got)
		}
		past, e := w.repo.Past(id)
		if s, _ := w.plain.whole(id); (s != nil) != (e == api.OK) || s != nil && !slices.Equal(past, order.Set(w.plain.past(id))) {
			w.t.Fatalf("%x: past %x, error %d", id, past, e)
		}
	}
	known := slices.DeleteFunc(slices.Clone(w.seen), func(id api.Id) bool { return !w.plain.known(id) })
	for range 4 {
		wants, haves, choices := w.someIds(4), w.someIds(5), w.numbers()
		for range w.Intn(3) * min(len(known), 1) {
			wants = append(wants, pick(w.Rand, known))
		}
		if w.Intn(4) > 0 {
			wants = slices.DeleteFunc(wants, func(id api.Id) bool { return !slices.Contains(known, id) })
		}
		set, e := w.repo.Reach(wants)
		if want, f := w.plain.reach(wants); e != f || !slices.Equal(set, want) {
			w.t.Fatalf("%x: reach %x, error %d; want %x, %d", wants, set, e, want, f)
		}
		b, e := w.repo.Bundle(wants, haves, choices)
		if want, f := w.plain.bundle(wants, haves, choices); e != f || !slices.Equal(b, want) {
			w.t.Fatalf("%x, %x: bundle of %d bytes, error %d; want %d, %d", wants, haves, len(b), e, len(want), f)
		}
		w.met[e]++
	}
}

// P24.1 to P24.4, P1: random acts; every answer is the plain one's.
func TestPlain(t *testing.T) {
	met := map[api.Errno]int{}
	for seed := range int64(150) {
		w := newWorld(t, rand.New(rand.NewSource(seed)), ample)
		w.met = met
		for i := range 40 {
			w.step(false)
			if i%10 == 9 {
				w.asks()
			}
		}
		w.repo = opened(t, w.disk)
		w.stands(w.plain)
		w.asks()
	}
	for _, e := range []api.Errno{api.OK, api.ErrArg, api.ErrNone, api.ErrForm, api.ErrName, api.ErrThere, api.ErrMissing, api.ErrClean, api.ErrMoved, api.ErrHead} {
		if met[e] < 10 {
			t.Errorf("error %d: %d times", e, met[e])
		}
	}
}

// What is drawn is the same in each run, whatever the order of a map: else the other tests here would not be.
func TestDraws(t *testing.T) {
	for seed := range int64(10) {
		var first *world
		for range 3 {
			w := newWorld(t, rand.New(rand.NewSource(seed)), ample)
			for range 40 {
				w.step(true)
			}
			if first == nil {
				first = w
			}
			if !slices.Equal(w.seen, first.seen) || !reflect.DeepEqual(w.met, first.met) {
				t.Fatalf("seed %d: %v; want %v", seed, w.met, first.met)
			}
		}
	}
}

// P24.4, P5: a disk that crashes at any act, again and again.
func TestPlainCrashes(t *testing.T) {
	met := map[api.Errno]int{}
	for seed := range int64(250) {
		w := newWorld(t, rand.New(rand.NewSource(1000+seed)), ample)
		w.met = met
		for i := range 40 {
			w.step(true)
			if i%20 == 19 {
				w.asks()
			}
		}
	}
	if met[api.ErrDown] < 500 {
		t.Errorf("%d crashes", met[api.ErrDown])
	}
}

// P24.4: a disk with little room, that may crash, too.
func TestPlainNoSpace(t *testing.T) {
	met := map[api.Errno]int{}
	for seed := range int64(300) {
		r := rand.New(rand.NewSource(5000 + seed))
		w := newWorld(t, r, 300+r.Intn(4000))
		w.met = met
		for i := range 40 {
			w.step(seed%2 == 0)
			if i%20 == 19 {
				w.asks()
			}
		}
	}
	if met[api.ErrNoSpace] < 300 {
		t.Errorf("%d times", met[api.ErrNoSpace])
	}
}

// P24.4: a crash at each act of each command of a story, and of the Open behind it, whatever stays.
func TestEveryAct(t *testing.T) {
	story := []api.Command{
		{Kind: api.CCommit, Files: files("a", "one\ntwo\n"), Author: "Ann", Note: "first"},
		{Kind: api.CBranch, Name: "dev"},
		{Kind: api.CCommit, Files: files("a", "one\nTWO\n"), Author: "Ann", Note: "second"},
		{Kind: api.CSwitch, Name: "dev"},
		{Kind: api.CCommit, Files: files("a", "ONE\ntwo\n"), Author: "Ann", Note: "third"},
		{Kind: api.CMerge, Name: "main", Author: "Ann", Note: "fourth"},
		{Kind: api.CGc},
		{Kind: api.CPick, Name: "main", Author: "Ann"},
		{Kind: api.CTag, Name: "v1", Other: "main"},
		{Kind: api.CRepack, Choices: []int{1}},
		{Kind: api.CUntag, Name: "v1"},
		{Kind: api.CGc},
		{Kind: api.CSwitch},
		{Kind: api.CDrop, Name: "dev"},
	}
	for last, c := range story {
		for n := 1; ; n++ {
			down := false
			for _, fates := range [][]int{nil, {-1, -1, -1, -1, -1, -1, -1, -1, -1}, {1, 1, 1, 1, 1, 1, 1, 1, 1, 1}, {-1, 3, 9, 40}, {1, -1, 0, -1}} {
				for again := range 4 {
					d := disk.New(ample)
					r := opened(t, d)
					for _, c := range story[:last] {
						r.Do(c)
					}
					before, told := r.Refs(), r.Do(api.Command{Kind: api.CCheckout})
					d.Arm(n)
					a := r.Do(c)
					after := r.Refs()
					down = d.Down()
					if down != (a.Error == api.ErrDown) {
						t.Fatalf("%+v: %+v", c, a)
					}
					d.Crash(fates)
					d.Arm(again) // within Open
					r, e := repo.Open(d)
					if d.Down() {
						d.Crash(fates)
						r, e = repo.Open(d)
					}
					if e != api.OK {
						t.Fatalf("%+v, act %d, %v: Open: error %d", c, n, fates, e)
					}
					d.Arm(0)
					now := r.Refs()
					if !down && !reflect.DeepEqual(norm(now), norm(after)) {
						t.Fatalf("%+v, %v: what was answered is not kept: %+v", c, fates, now)
					}
					if reflect.DeepEqual(norm(now), norm(before)) {
						answers(t, r, api.Command{Kind: api.CCheckout}, told)
						r.Do(c)
					}
					for _, c := range story[last+1:] {
						r.Do(c)
					}
					// What comes of it is the same, whatever happened.
					if a := r.Do(api.Command{Kind: api.CCheckout}); a.Error != api.OK || len(a.Files) != 1 || a.Files[0].Bytes != "ONE\nTWO\n" {
						t.Fatalf("%+v, act %d, %v: %+v", c, n, fates, a)
					}
					if l := strings.Join(r.Do(api.Command{Kind: api.CRefs}).Lines, " "); strings.Count(l, "branch") != 1 || strings.Contains(l, "tag") {
						t.Fatalf("%+v, act %d, %v: %s", c, n, fates, l)
					}
				}
			}
			if !down {
				break
			}
		}
	}
}
