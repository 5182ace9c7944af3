package loose_test

import (
	"bytes"
	"crypto/sha256"
	"encoding/hex"
	"math"
	"math/rand"
	"slices"
	"strings"
	"testing"

	"variorum/api"
	"variorum/disk"
	"variorum/loose"
)

// ample is a quota that nothing here comes up to.
const ample = 1 << 24

// all keeps all that can be: as a fate it is -1 modulo any number of choices.
const all = -1

func sum(s string) api.Id { return sha256.Sum256([]byte(s)) }

// name is the file's of some bytes' id, put down as the chapter tells it.
func name(s string) string {
	id := sum(s)
	return "o-" + hex.EncodeToString(id[:])
}

// good fails, if one of the errors is one.
func good(t *testing.T, errors ...api.Errno) {
	t.Helper()
	for i, e := range errors {
		if e != api.OK {
			t.Fatalf("act %d: error %d", i, e)
		}
	}
}

// holds fails, unless the disk has just these files (a name and its bytes in turn, in whatever order).
func holds(t *testing.T, d *disk.Disk, files ...string) {
	t.Helper()
	want := map[string]string{}
	for i := 0; i < len(files); i += 2 {
		want[files[i]] = files[i+1]
	}
	if l := d.List(); len(l) != len(want) {
		t.Errorf("files %q", l)
	}
	for name, s := range want {
		if b, e := d.Read(name); e != api.OK || string(b) != s {
			t.Errorf("%s: %q, %d; want %q", name, b, e, s)
		}
	}
}

// made is a disk with these files (a name and its bytes in turn), all of them kept over a crash.
func made(t *testing.T, files ...string) *disk.Disk {
	t.Helper()
	d := disk.New(ample)
	for i := 0; i < len(files); i += 2 {
		good(t, d.Append(files[i], []byte(files[i+1])), d.Sync(files[i]))
	}
	return d
}

// put fails, unless Put tells the bytes' id, and that alone.
func put(t *testing.T, d *disk.Disk, s string) {
	t.Helper()
	if id, other, e := loose.Put(d, []byte(s)); id != sum(s) || len(other) != 0 || e != api.OK {
		t.Fatalf("%.20q: %x, %q, %d", s, id, other, e)
	}
}

// refused fails, unless Put has this error, and nothing else.
func refused(t *testing.T, d *disk.Disk, s string, want api.Errno) {
	t.Helper()
	if id, other, e := loose.Put(d, []byte(s)); id != (api.Id{}) || len(other) != 0 || e != want {
		t.Fatalf("%.20q: %x, %q, %d; want %d", s, id, other, e, want)
	}
}

// got fails, unless the id of the bytes is there, with them.
func got(t *testing.T, d *disk.Disk, s string) {
	t.Helper()
	if b, e := loose.Get(d, sum(s)); e != api.OK || string(b) != s || !loose.Has(d, sum(s)) {
		t.Errorf("%.20q: %.20q, %d", s, b, e)
	}
}

// lacks fails, unless Get of the bytes' id has this error.
func lacks(t *testing.T, d *disk.Disk, s string, want api.Errno) {
	t.Helper()
	if b, e := loose.Get(d, sum(s)); e != want || len(b) != 0 || loose.Has(d, sum(s)) {
		t.Errorf("%.20q: %.20q, %d; want %d", s, b, e, want)
	}
}

// lists fails, unless List tells just these bytes' ids, in order.
func lists(t *testing.T, d *disk.Disk, texts ...string) {
	t.Helper()
	want := []api.Id{}
	for _, s := range texts {
		want = append(want, sum(s))
	}
	slices.SortFunc(want, func(a, b api.Id) int { return bytes.Compare(a[:], b[:]) })
	if l := loose.List(d); !slices.Equal(l, want) {
		t.Errorf("%x; want %x", l, want)
	}
}

// The examples of the chapter.
func TestExamples(t *testing.T) {
	d := disk.New(ample)
	put(t, d, "abc")
	file := "o-ba7816bf8f01cfea414140de5dae2223b00361a396177a9cb410ff61f20015ad"
	holds(t, d, file, "abc")
	d = made(t, file, "ab")
	lacks(t, d, "abc", api.ErrMissing)
	put(t, d, "abc")
	got(t, d, "abc")
	holds(t, d, file, "abc")
}

// P9.1: each is in a file of its own, whatever its bytes; none of them, and as many as may be, too.
func TestPut(t *testing.T) {
	d := made(t, "x", "other")
	texts := []string{"", "a", "abc", "\x00", "\xff\xfe\n", strings.Repeat("v", api.MaxObject-1), strings.Repeat("v", api.MaxObject)}
	files := []string{"x", "other"}
	for _, s := range texts {
		lacks(t, d, s, api.ErrMissing)
		put(t, d, s)
		files = append(files, name(s), s)
		got(t, d, s)
	}
	holds(t, d, files...)
	lists(t, d, texts...)
	for _, s := range texts {
		put(t, d, s)
	}
	holds(t, d, files...)
	d.Crash(nil)
	holds(t, d, files...)
}

// P9.1: too many bytes, whatever the disk.
func TestPutLong(t *testing.T) {
	down := disk.New(ample)
	down.Arm(1)
	down.Append("a", nil)
	d := disk.New(ample)
	for _, n := range []int{api.MaxObject + 1, 2 * api.MaxObject} {
		for _, d := range []*disk.Disk{d, down, disk.New(0), nil} {
			refused(t, d, strings.Repeat("v", n), api.ErrLong)
		}
	}
	holds(t, d)
}

// P9.1, P9.2, P9.3: no disk, or one that is down.
func TestNoDisk(t *testing.T) {
	down := made(t, name("abc"), "abc", name("cut"), "c")
	down.Arm(1)
	down.Append("a", nil)
	for want, d := range map[api.Errno]*disk.Disk{api.ErrArg: nil, api.ErrDown: down} {
		for _, s := range []string{"abc", "cut", "none", ""} {
			refused(t, d, s, want)
			lacks(t, d, s, want)
			if e := loose.Drop(d, sum(s)); e != want {
				t.Errorf("Drop: %d; want %d", e, want)
			}
		}
		lists(t, d)
	}
	down.Crash(nil)
	holds(t, down, name("abc"), "abc", name("cut"), "c")
}

// step is what a disk has, if it goes down at an act: all that was done ahead of it kept.
type step []string

// steps fails, unless putting some bytes on a disk with the files that it is made with comes by these steps, and then is done.
func steps(t *testing.T, s string, files []string, l ...step) {
	t.Helper()
	for i := range len(l) + 1 {
		d := made(t)
		for j := 0; j < len(files); j += 2 { // not synced
			good(t, d.Append(files[j], []byte(files[j+1])))
		}
		d.Arm(i + 1)
		if i == len(l) {
			put(t, d, s)
			if d.Crash(nil); d.Down() {
				t.Fatal("down")
			}
			got(t, d, s)
			continue
		}
		refused(t, d, s, api.ErrDown)
		d.Crash([]int{all, all, all, all})
		holds(t, d, l[i]...)
	}
}

// P9.1: which acts are done to the disk, and in which order.
func TestPutActs(t *testing.T) {
	n := name("abc")
	steps(t, "abc", nil, step{}, step{n, "abc"})                                  // append, sync
	steps(t, "abc", []string{n, "abc"}, step{n, "abc"})                           // sync
	steps(t, "abc", []string{n, "ab"}, step{n, "ab"}, step{}, step{n, "abc"})     // remove, append, sync
	steps(t, "abc", []string{n, "abcd"}, step{n, "abcd"}, step{}, step{n, "abc"}) // likewise
	steps(t, "abc", []string{n, ""}, step{n, ""}, step{}, step{n, "abc"})
	steps(t, "", []string{name(""), "x"}, step{name(""), "x"}, step{}, step{name(""), ""})
	steps(t, "", []string{name(""), ""}, step{name(""), ""})
	other := []string{name("ab"), "ab"}
	steps(t, "abc", other, step(other), step(append(other, n, "abc")))
}

// P9.1: a file that stands there already is kept from then on.
func TestPutSyncs(t *testing.T) {
	d := disk.New(ample)
	good(t, d.Append(name("abc"), []byte("abc")))
	d.Crash([]int{0})
	holds(t, d)
	good(t, d.Append(name("abc"), []byte("abc")))
	put(t, d, "abc")
	d.Crash([]int{0})
	got(t, d, "abc")
	good(t, loose.Drop(d, sum("abc"))) // not kept over a crash yet
	put(t, d, "abc")
	for range 2 {
		d.Crash([]int{0})
		got(t, d, "abc")
	}
}

// P9.1: the disk has no room: for a new file nothing is changed; one that is not there is removed first, which makes room.
func TestPutNoSpace(t *testing.T) {
	d := disk.New(4)
	good(t, d.Append("x", []byte("12")))
	refused(t, d, "abc", api.ErrNoSpace)
	holds(t, d, "x", "12")
	lacks(t, d, "abc", api.ErrMissing)
	put(t, d, "ab")
	refused(t, d, "a", api.ErrNoSpace)
	holds(t, d, "x", "12", name("ab"), "ab")
	put(t, d, "ab") // no byte more
	if d.Refused() != 2 {
		t.Errorf("refused %d", d.Refused())
	}

	d = disk.New(4)
	good(t, d.Append("x", []byte("12")), d.Append(name("abc"), []byte("ab")))
	refused(t, d, "abc", api.ErrNoSpace)
	holds(t, d, "x", "12")

	d = disk.New(3)
	good(t, d.Append(name("abc"), []byte("xyz")))
	put(t, d, "abc")
	holds(t, d, name("abc"), "abc")
}

// P9.2: the file's bytes have another sum, or there is no file.
func TestGetMissing(t *testing.T) {
	d := made(t, name("abc"), "ab", name("one"), "two", name("two"), "", name(""), "x", name("six"), "six ", name("ok"), "ok")
	for _, s := range []string{"abc", "one", "two", "", "six", "none"} {
		lacks(t, d, s, api.ErrMissing)
	}
	for _, id := range []api.Id{{}, {31: 1}} {
		if b, e := loose.Get(d, id); len(b) != 0 || e != api.ErrMissing || loose.Has(d, id) {
			t.Errorf("%x: %q, %d", id, b, e)
		}
	}
	got(t, d, "ok")
	lists(t, d, "ok")
	good(t, d.Append(name("abc"), []byte("c")))
	got(t, d, "abc") // there by its bytes, whoever wrote them
	lists(t, d, "ok", "abc")
}

// P9.2: a file that is too long for Put, but right, is there.
func TestGetLong(t *testing.T) {
	s := strings.Repeat("v", api.MaxObject+1)
	d := made(t, name(s), s)
	got(t, d, s)
	lists(t, d, s)
}

// P9.2: only files of ids count.
func TestListNames(t *testing.T) {
	digits := name("abc")[2:]
	d := made(t, "p-"+digits, "abc", digits, "abc", "O-"+digits, "abc", "o-"+strings.ToUpper(digits), "abc", "o-"+digits[:63], "abc", "o-"+digits+"0", "abc", "o-", "abc", "o--"+digits[:63], "abc", " o-"+digits, "abc", "o-o-"+digits, "abc", "o-g"+digits[1:], "abc", "a", "abc", "~", "abc")
	lacks(t, d, "abc", api.ErrMissing)
	lists(t, d)
	put(t, d, "abc")
	lists(t, d, "abc")
}

// P9.2: many ids, told in order, each once.
func TestList(t *testing.T) {
	d := disk.New(ample)
	lists(t, d)
	var texts []string
	for i := range 500 {
		s := strings.Repeat("x", i)
		put(t, d, s)
		put(t, d, s)
		texts = append(texts, s)
	}
	lists(t, d, texts...)
}

// P9.3: what is dropped is gone, be its bytes right or not; what has no file is missing.
func TestDrop(t *testing.T) {
	d := made(t, name("abc"), "abc", name("cut"), "c", name(""), "", name("stays"), "stays", "x", "other")
	for _, s := range []string{"abc", "cut", ""} {
		if e := loose.Drop(d, sum(s)); e != api.OK {
			t.Errorf("%q: %d", s, e)
		}
		lacks(t, d, s, api.ErrMissing)
		if e := loose.Drop(d, sum(s)); e != api.ErrMissing {
			t.Errorf("%q again: %d", s, e)
		}
	}
	if e := loose.Drop(d, api.Id{}); e != api.ErrMissing {
		t.Errorf("the zero id: %d", e)
	}
	holds(t, d, name("stays"), "stays", "x", "other")
	d.Arm(1)
	if e := loose.Drop(d, sum("none")); e != api.ErrMissing || d.Down() {
		t.Errorf("no act: %d", e)
	}
	if e := loose.Drop(d, sum("stays")); e != api.ErrDown {
		t.Errorf("armed: %d", e)
	}
	d.Crash([]int{all, all, all})
	holds(t, d, name("stays"), "stays", "x", "other")
	d.Arm(2)
	good(t, loose.Drop(d, sum("stays"))) // one act
	d.Crash([]int{all})
	holds(t, d, "x", "other")
}

// R4: what is handed in is neither changed nor kept, what is handed out is new.
func TestMemory(t *testing.T) {
	d := disk.New(ample)
	room := []byte("abcdef")
	if _, _, e := loose.Put(d, room[:3]); e != api.OK || string(room) != "abcdef" {
		t.Fatalf("%q, %d", room, e)
	}
	clear(room)
	got(t, d, "abc")
	first, _ := loose.Get(d, sum("abc"))
	second, _ := loose.Get(d, sum("abc"))
	clear(first)
	if string(second) != "abc" {
		t.Error("shared by two answers")
	}
	got(t, d, "abc")
	l := loose.List(d)
	clear(l)
	lists(t, d, "abc")
}

// P9.4: what was told is there behind any crash, and whatever Get tells has the id as its sum.
func TestCrashes(t *testing.T) {
	r := rand.New(rand.NewSource(9))
	texts := []string{"", "a", "ab", "abc", "abcd", "b", "longer than the others"}
	for range 300 {
		d := disk.New(60)
		told := map[string]bool{}
		for range 60 {
			s := texts[r.Intn(len(texts))]
			if r.Intn(3) == 0 {
				d.Arm(1 + r.Intn(4))
			}
			switch r.Intn(5) {
			case 0:
				if loose.Drop(d, sum(s)) != api.ErrMissing { // done or not, a crash may undo it
					delete(told, s)
				}
			case 1: // what a crash may leave
				if !told[s] {
					d.Append(name(s), []byte(s)[:r.Intn(len(s)+1)])
				}
			default:
				if id, _, e := loose.Put(d, []byte(s)); e == api.OK && id == sum(s) {
					told[s] = true
				}
			}
			if d.Down() || r.Intn(4) == 0 {
				d.Crash([]int{r.Intn(math.MaxInt), r.Intn(math.MaxInt), r.Intn(math.MaxInt), r.Intn(math.MaxInt), r.Intn(math.MaxInt), r.Intn(math.MaxInt)})
			}
			for s := range told {
				got(t, d, s)
			}
			for _, id := range loose.List(d) {
				if b, e := loose.Get(d, id); e != api.OK || sha256.Sum256(b) != id {
					t.Fatalf("%x: %q, %d", id, b, e)
				}
			}
		}
	}
}
