package journal_test

import (
	"math"
	"math/rand"
	"reflect"
	"slices"
	"strings"
	"testing"

	"variorum/api"
	"variorum/disk"
	"variorum/journal"
	"variorum/refs"
)

// ample is a quota that nothing here comes up to.
const ample = 1 << 24

// all keeps all that can be: as a fate it is -1 modulo any number of choices.
const all = -1

// id is the one whose last byte is c.
func id(c byte) api.Id { return api.Id{31: c} }

func branch(name string, from, to byte) api.Update {
	return api.Update{Kind: api.RBranch, Name: name, Old: id(from), New: id(to)}
}

func tag(name string, from, to byte) api.Update {
	return api.Update{Kind: api.RTag, Name: name, Old: id(from), New: id(to)}
}

func head(name string, to byte) api.Update {
	return api.Update{Kind: api.RHead, Name: name, New: id(to)}
}

// number is a number's bytes, put down as layer 2 tells it.
func number(n int) string {
	if n < 128 {
		return string([]byte{byte(n)})
	}
	return string([]byte{byte(n%128 + 128)}) + number(n/128)
}

func text(s string) string { return number(len(s)) + s }

// record is bytes with their length ahead.
func record(s string) string { return text(s) }

// did is a record of updates and their note, put down as the chapter tells it.
func did(note string, l ...api.Update) string {
	s := "T" + number(len(l))
	for _, u := range l {
		s += string([]byte{u.Kind}) + text(u.Name) + string(u.Old[:]) + string(u.New[:])
	}
	return record(s + text(note))
}

// are is a record of refs.
func are(r refs.Refs) string {
	b, e := refs.Encode(r)
	if e != api.OK {
		panic("no refs")
	}
	return record("S" + string(b))
}

// behind is what updates make of refs; a note stands behind those that it has.
func behind(t *testing.T, r refs.Refs, note string, l ...api.Update) refs.Refs {
	t.Helper()
	r, e := refs.Apply(r, l, note)
	if e != api.OK {
		t.Fatalf("%v: %d", l, e)
	}
	return r
}

// same: are they the same refs?
func same(a, b refs.Refs) bool {
	return slices.Equal(a.Branches, b.Branches) && slices.Equal(a.Tags, b.Tags) && slices.Equal(a.Log, b.Log) && a.Head == b.Head && a.At == b.At
}

// good fails, if one of the errors is one.
func good(t *testing.T, errors ...api.Errno) {
	t.Helper()
	for i, e := range errors {
		if e != api.OK {
			t.Fatalf("call %d: error %d", i, e)
		}
	}
}

// made is a disk with these files (a name and its bytes in turn), all of them kept over a crash.
func made(t *testing.T, quota int, files ...string) *disk.Disk {
	t.Helper()
	d := disk.New(quota)
	for i := 0; i < len(files); i += 2 {
		good(t, d.Append(files[i], []byte(files[i+1])), d.Sync(files[i]))
	}
	return d
}

// holds fails, unless the disk has just these files (a name and its bytes in turn, in order of names).
func holds(t *testing.T, d *disk.Disk, files ...string) {
	t.Helper()
	got := []string{}
	for _, name := range d.List() {
		b, e := d.Read(name)
		good(t, e)
		got = append(got, name, string(b))
	}
	if !slices.Equal(got, files) {
		t.Errorf("%q; want %q", got, files)
	}
}

// opened is a disk's journal.
func opened(t *testing.T, d *disk.Disk) *journal.Journal {
	t.Helper()
	j, e := journal.Open(d)
	if e != api.OK || j == nil {
		t.Fatalf("Open: %d", e)
	}
	return j
}

// tells fails, unless a journal has these refs, and its disk's file just these bytes.
func tells(t *testing.T, d *disk.Disk, j *journal.Journal, r refs.Refs, file string) {
	t.Helper()
	if got := j.Refs(); !same(got, r) {
		t.Errorf("refs %v; want %v", got, r)
	}
	b, _ := d.Read("journal")
	if string(b) != file || j.Size() != len(file) {
		t.Errorf("%d bytes, %q; want %q", j.Size(), b, file)
	}
}

// The examples of the chapter.
func TestExamples(t *testing.T) {
	d := disk.New(ample)
	j := opened(t, d)
	good(t, j.Commit([]api.Update{branch("main", 0, 1)}, "first"))
	d.Crash(nil)
	j = opened(t, d)
	r := behind(t, refs.Begin(), "first", branch("main", 0, 1))
	tells(t, d, j, r, did("first", branch("main", 0, 1)))
	d.Arm(2)
	if e := j.Commit([]api.Update{branch("main", 1, 2)}, "second"); e != api.ErrDown {
		t.Fatalf("error %d", e)
	}
	d.Crash([]int{0, 50})
	if b, _ := d.Read("journal"); len(b) != len(did("first", branch("main", 0, 1)))+50 {
		t.Errorf("%d bytes are kept", len(b))
	}
	j = opened(t, d)
	tells(t, d, j, r, are(r))
	holds(t, d, "journal", are(r))
}

// P21.1: no disk, one that is down, and one without the file.
func TestOpen(t *testing.T) {
	down := made(t, ample, "journal", "wrong", "journal.new", "x")
	down.Arm(1)
	down.Append("a", nil)
	for want, d := range map[api.Errno]*disk.Disk{api.ErrArg: nil, api.ErrDown: down} {
		if j, e := journal.Open(d); j != nil || e != want {
			t.Errorf("%v, %d; want %d", j, e, want)
		}
	}
	down.Crash(nil)
	holds(t, down, "journal", "wrong", "journal.new", "x")

	for _, files := range [][]string{nil, {"Journal", "x", "journal.old", "y", "journal/", "z"}, {"journal", ""}} {
		d := made(t, ample, files...)
		d.Arm(1)
		j := opened(t, d)
		if d.Down() {
			t.Fatalf("%q: an act was done", files)
		}
		tells(t, d, j, refs.Begin(), "")
		holds(t, d, files...)
	}
}

// P21.1: the refs are those behind all records.
func TestOpenRecords(t *testing.T) {
	a, b, c := branch("main", 0, 1), branch("main", 1, 2), tag("v1", 0, 2)
	begin := refs.Begin()
	one := behind(t, begin, "n", a)
	long := strings.Repeat("n", 256)
	full := begin
	for i := range 64 {
		last := string([]byte{byte('a' + i/26), byte('a' + i%26)})
		full = behind(t, full, long, branch(strings.Repeat("b", 30)+last, 0, 1), tag(strings.Repeat("t", 30)+last, 0, 1))
	}
	for _, x := range []struct {
		file string
		want refs.Refs
	}{
		{did("n", a), one},
		{did("n", a) + did("", b, c), behind(t, one, "", b, c)},
		{did(""), begin},
		{did(long) + did("") + did("n", a) + did(""), one},
		{did(long, a), behind(t, begin, long, a)},
		{did("n", a, b, head("", 7), head("dev", 0)), behind(t, begin, "n", a, b, head("", 7), head("dev", 0))},
		{are(begin), begin},
		{are(one), one},
		{are(full), full},
		{are(one) + did("", b), behind(t, one, "", b)},
		{did("n", a) + are(begin), begin}, // an S has its own, whatever stands ahead
		{did("n", tag("x", 0, 3)) + are(one) + did("", b) + are(full) + are(one) + did("", b) + did("", c), behind(t, behind(t, one, "", b), "", c)},
	} {
		d := made(t, ample, "journal", x.file)
		d.Arm(1)
		j := opened(t, d)
		if d.Down() {
			t.Fatalf("%q: an act was done", x.file)
		}
		tells(t, d, j, x.want, x.file)
	}
}

// P21.1: whole records that are none, and such as ask for what Apply refuses.
func TestOpenForm(t *testing.T) {
	a := branch("main", 0, 1)
	update := func(s string) string { return record("T\x01" + s) }
	right := did("n", a)
	zeros := strings.Repeat("\x00", 63) + "\x01"
	for what, s := range map[string]string{
		"no bytes":                        record(""),
		"another mark":                    record("t\x00\x00"),
		"another mark with refs":          record("s" + are(refs.Begin())[2:]),
		"no count":                        record("T"),
		"a count that can't be read":      record("T\x80"),
		"a count in more than it needs":   record("T\x80\x00\x00"),
		"no note":                         record("T\x00"),
		"a note that is cut":              record("T\x00\x02n"),
		"more behind the note":            record("T\x00\x00\x00"),
		"fewer updates than told":         record("T\x02" + right[3:]),
		"a great count":                   record("T\xff\xff\xff\xff\xff\xff\xff\xff\x7f" + right[3:]),
		"more updates than told":          record("T\x00" + right[3:]),
		"no kind":                         update(""),
		"no name":                         update("\x01"),
		"a name that is cut":              update("\x01\x05main"),
		"an id that is cut":               update("\x01\x04main" + zeros[:63]),
		"an update without a note":        update("\x01\x04main" + zeros),
		"kind 0":                          update("\x00\x04main" + zeros + "\x00"),
		"kind 4":                          update("\x04\x04main" + zeros + "\x00"),
		"a name that is none":             did("n", branch("a b", 0, 1)),
		"a name that is empty":            did("n", branch("", 0, 1)),
		"a name that is too long":         did("n", branch(strings.Repeat("a", 33), 0, 1)),
		"a name that is much too long":    did("n", branch(strings.Repeat("a", 300), 0, 1)),
		"a note that is too long":         did(strings.Repeat("n", 257), a),
		"a note that is no text":          did("\xff", a),
		"a note that is none, of nothing": did("\xff"),
		"what has moved":                  did("n", branch("main", 1, 2)),
		"what has moved, later":           did("n", a, a),
		"the head's branch taken away":    did("n", a, branch("main", 1, 0)),
		"a tag that moves":                did("n", tag("v", 1, 2)),
		"no refs":                         record("S"),
		"refs that are cut":               record("S" + are(refs.Begin())[2:20]),
		"refs and more":                   record("S" + are(refs.Begin())[2:] + "\x00"),
		"refs that may not be":            record("S\x00\x00\x00" + strings.Repeat("\x00", 33)),
		"a transaction marked as refs":    record("S" + right[2:]),
	} {
		ahead, torn := did("", tag("x", 0, 1)), record("S" + strings.Repeat("n", 200))[:100]
		for _, file := range []string{s, ahead + s, s + ahead, s + are(refs.Begin()), ahead + s + torn} {
			d := made(t, ample, "journal", file, "journal.new", "x", "other", "y")
			if j, e := journal.Open(d); j != nil || e != api.ErrForm {
				t.Errorf("%s: %v, %d", what, j, e)
			}
			holds(t, d, "journal", file, "other", "y")
		}
	}
}

// P21.1: wherever the file is cut, the whole records count, and it is made new.
func TestOpenTorn(t *testing.T) {
	begin := refs.Begin()
	one := behind(t, begin, "n", branch("main", 0, 1))
	two := behind(t, one, strings.Repeat("m", 100), branch("main", 1, 2), head("", 5))
	rows := []string{did("n", branch("main", 0, 1)), did(strings.Repeat("m", 100), branch("main", 1, 2), head("", 5)), are(two), did("", tag("v", 0, 2))}
	after := []refs.Refs{begin, one, two, two, behind(t, two, "", tag("v", 0, 2))}
	file := strings.Join(rows, "")
	whole, at := 0, 0
	for n := range len(file) + 1 {
		if whole < len(rows) && n == at+len(rows[whole]) {
			at, whole = n, whole+1
		}
		d := made(t, ample, "journal", file[:n], "journal.new", "left")
		j := opened(t, d)
		want := file[:n]
		if n > at {
			want = are(after[whole])
		}
		tells(t, d, j, after[whole], want)
		if n > at {
			d.Crash(nil) // all of it is kept
			holds(t, d, "journal", want)
		}
		good(t, j.Commit([]api.Update{tag("new", 0, 9)}, "more"))
		tells(t, d, opened(t, d), behind(t, after[whole], "more", tag("new", 0, 9)), want+did("more", tag("new", 0, 9)))
	}
}

// P21.1: lengths that can't be read, and such as no bytes come up to.
func TestOpenTornLengths(t *testing.T) {
	one := behind(t, refs.Begin(), "n", branch("main", 0, 1))
	ahead := did("n", branch("main", 0, 1))
	for _, s := range []string{"\x80", "\x80\x00", "\xff\xff\xff\xff\xff\xff\xff\xff\x7f", "\xff\xff\xff\xff\xff\xff\xff\xff\xff\x01", "\x01", "\x02T", "\x7fS", "\x80\x00" + ahead, "\xff\x01" + ahead} {
		d := made(t, ample, "journal", ahead+s)
		tells(t, d, opened(t, d), one, are(one))
	}
}

// P21.1, P21.2: a torn journal that can't be made new is told all the same; nothing is put upon it until it can be.
func TestStillTorn(t *testing.T) {
	one := behind(t, refs.Begin(), "n", branch("main", 0, 1))
	file := did("n", branch("main", 0, 1)) + "\x7fS"
	more := did("m", tag("v", 0, 1))
	filler := strings.Repeat("f", 201)
	d := made(t, len(file)+len(are(one))+200, "filler", filler, "journal", file)
	j := opened(t, d)
	tells(t, d, j, one, file)
	holds(t, d, "filler", filler, "journal", file)
	for range 2 {
		if e := j.Commit([]api.Update{tag("v", 0, 1)}, "m"); e != api.ErrNoSpace {
			t.Fatalf("Commit: %d", e)
		}
		if e := j.Commit([]api.Update{tag("v", 1, 2)}, "m"); e != api.ErrArg { // Apply's comes first
			t.Fatalf("Commit: %d", e)
		}
		if e := j.Renew(); e != api.ErrNoSpace {
			t.Fatalf("Renew: %d", e)
		}
		tells(t, d, j, one, file)
		holds(t, d, "filler", filler, "journal", file)
	}
	good(t, d.Remove("filler"), j.Commit([]api.Update{tag("v", 0, 1)}, "m"))
	tells(t, d, j, behind(t, one, "m", tag("v", 0, 1)), are(one)+more)
	good(t, j.Commit([]api.Update{tag("v", 1, 0)}, ""))
	tells(t, d, j, behind(t, behind(t, one, "m", tag("v", 0, 1)), "", tag("v", 1, 0)), are(one)+more+did("", tag("v", 1, 0)))
}

// P21.2: records stand one behind the other, and the refs are those behind them.
func TestCommit(t *testing.T) {
	d := disk.New(ample)
	j := opened(t, d)
	r, file := refs.Begin(), ""
	for _, x := range []struct {
		note string
		l    []api.Update
	}{
		{"first", []api.Update{branch("main", 0, 1)}},
		{"", nil},
		{strings.Repeat("n", 256), []api.Update{branch("main", 1, 2), branch("dev", 0, 2), tag("v", 0, 1)}},
		{"é", []api.Update{head("dev", 0), branch("main", 2, 0)}},
		{"", []api.Update{head("", 9), tag("v", 1, 0), tag("v", 0, 2), branch("x", 0, 0)}},
	} {
		good(t, j.Commit(x.l, x.note))
		r = behind(t, r, x.note, x.l...)
		file += did(x.note, x.l...)
		tells(t, d, j, r, file)
		d.Crash(nil) // it is synced
		holds(t, d, "journal", file)
		tells(t, d, opened(t, d), r, file)
	}
}

// P21.2: what Apply refuses is told, and changes nothing.
func TestCommitErrors(t *testing.T) {
	d := disk.New(ample)
	j := opened(t, d)
	good(t, j.Commit([]api.Update{branch("main", 0, 1)}, ""))
	r, file := behind(t, refs.Begin(), "", branch("main", 0, 1)), did("", branch("main", 0, 1))
	for _, x := range []struct {
		want api.Errno
		note string
		l    []api.Update
	}{
		{api.ErrArg, "\xff", nil},
		{api.ErrArg, strings.Repeat("n", 257), []api.Update{branch("a", 0, 1)}},
		{api.ErrArg, "", []api.Update{{}}},
		{api.ErrArg, "", []api.Update{branch("a", 0, 1), tag("v", 1, 2)}},
		{api.ErrName, "", []api.Update{branch("a b", 0, 1)}},
		{api.ErrMoved, "", []api.Update{branch("a", 0, 1), branch("main", 0, 1)}},
		{api.ErrHead, "", []api.Update{branch("main", 1, 0)}},
	} {
		d.Arm(1)
		if e := j.Commit(x.l, x.note); e != x.want || d.Down() {
			t.Errorf("%v: %d; want %d", x.l, e, x.want)
		}
		tells(t, d, j, r, file)
	}
	var many []api.Update
	for i := range 65 {
		many = append(many, tag("t"+string(rune('0'+i)), 0, 1))
	}
	if e := j.Commit(many, ""); e != api.ErrName && e != api.ErrFull || d.Down() {
		t.Errorf("too many: %d", e)
	}
	tells(t, d, j, r, file)
}

// grown is a journal whose file has n bytes, on a disk with other files, and its refs.
func grown(t *testing.T, quota, n int, files ...string) (*disk.Disk, *journal.Journal, refs.Refs) {
	t.Helper()
	file, note := did("", branch("main", 0, 1)), strings.Repeat("n", 50)
	for n-len(file) >= 2*len(did(note)) {
		file += did(note)
	}
	file += did(strings.Repeat("n", n-len(file)-len(did(""))))
	if len(file) != n {
		t.Fatalf("%d bytes, not %d", len(file), n)
	}
	d := made(t, quota, append(files, "journal", file)...)
	return d, opened(t, d), behind(t, refs.Begin(), "", branch("main", 0, 1))
}

// P21.2: a file of more than 8192 bytes is made new ahead of the record.
func TestCommitGreat(t *testing.T) {
	for _, n := range []int{8000, 8191, 8192, 8193, 8194, 20000} {
		d, j, r := grown(t, ample, n)
		before, _ := d.Read("journal")
		u := tag("v", 0, 1)
		good(t, j.Commit([]api.Update{u}, "m"))
		want := string(before)
		if n > 8192 {
			want = are(r)
		}
		tells(t, d, j, behind(t, r, "m", u), want+did("m", u))
		holds(t, d, "journal", want+did("m", u))

		d, j, r = grown(t, ample, n)
		d.Arm(1)
		if e := j.Commit([]api.Update{branch("main", 0, 2)}, "m"); e != api.ErrMoved || d.Down() { // Apply's comes first
			t.Errorf("%d bytes: %d", n, e)
		}
		tells(t, d, j, r, string(before))
	}
	d, j, _ := grown(t, ample, 8193)
	greatest := 0
	for i := range 250 {
		u := branch("main", byte(i+1), byte(i+2))
		good(t, j.Commit([]api.Update{u}, "n"))
		greatest = max(greatest, j.Size())
		if greatest > 8192+len(did("n", u)) {
			t.Fatalf("%d bytes", greatest)
		}
	}
	if greatest <= 8192 {
		t.Errorf("%d bytes at most", greatest)
	}
	j2 := opened(t, d)
	if !same(j2.Refs(), j.Refs()) || len(j.Refs().Log) != 64 {
		t.Errorf("%v", j2.Refs())
	}
}

// P21.2: a great file that can't be made new gets the record all the same, if there is room for that.
func TestCommitGreatNoSpace(t *testing.T) {
	u := tag("v", 0, 1)
	row := did("m", u)
	d, j, r := grown(t, 9000+len(row), 9000, "journal.new.", "")
	before, _ := d.Read("journal")
	if len(are(r)) <= len(row) {
		t.Fatal("the refs have too few bytes for this")
	}
	good(t, j.Commit([]api.Update{u}, "m"))
	r = behind(t, r, "m", u)
	tells(t, d, j, r, string(before)+row)
	holds(t, d, "journal", string(before)+row, "journal.new.", "")
	if d.Refused() != 1 {
		t.Errorf("refused %d", d.Refused())
	}
	if e := j.Commit([]api.Update{tag("w", 0, 1)}, "m"); e != api.ErrNoSpace || d.Refused() != 3 {
		t.Errorf("no room for either: %d, refused %d", e, d.Refused())
	}
	tells(t, d, j, r, string(before)+row)
	if e := j.Renew(); e != api.ErrNoSpace {
		t.Errorf("Renew: %d", e)
	}
	d.Crash([]int{all, all, all})
	tells(t, d, opened(t, d), r, string(before)+row)
}

// P21.2: no room for a record changes nothing; the next one may have it.
func TestCommitNoSpace(t *testing.T) {
	d := made(t, 300)
	j := opened(t, d)
	a := branch("main", 0, 1)
	good(t, j.Commit([]api.Update{a}, "n"))
	r, file := behind(t, refs.Begin(), "n", a), did("n", a)
	for range 2 {
		if e := j.Commit([]api.Update{tag("v", 0, 1)}, strings.Repeat("n", 200)); e != api.ErrNoSpace {
			t.Fatalf("error %d", e)
		}
		tells(t, d, j, r, file)
	}
	good(t, j.Commit([]api.Update{tag("v", 0, 1)}, ""))
	tells(t, d, j, behind(t, r, "", tag("v", 0, 1)), file+did("", tag("v", 0, 1)))
}

// P21.2: one record of the refs, whatever was there.
func TestRenew(t *testing.T) {
	d := made(t, ample, "journal.new", "left", "other", "x")
	j := opened(t, d)
	good(t, d.Append("journal.new", []byte("again")), j.Renew())
	tells(t, d, j, refs.Begin(), are(refs.Begin()))
	l := []api.Update{branch("main", 0, 1), tag("v", 0, 1), head("", 3)}
	good(t, j.Commit(l, "n"), j.Renew(), j.Renew())
	r := behind(t, refs.Begin(), "n", l...)
	tells(t, d, j, r, are(r))
	d.Crash(nil)
	holds(t, d, "journal", are(r), "other", "x")
	tells(t, d, opened(t, d), r, are(r))
}

// P21.3: a nil journal.
func TestNil(t *testing.T) {
	var j *journal.Journal
	if e := j.Commit(nil, "\xff"); e != api.ErrArg {
		t.Errorf("Commit: %d", e)
	}
	if e := j.Renew(); e != api.ErrArg {
		t.Errorf("Renew: %d", e)
	}
	if r := j.Refs(); !reflect.DeepEqual(r, refs.Refs{}) || j.Size() != 0 {
		t.Errorf("%v, %d", r, j.Size())
	}
}

// step is what a disk has, if it goes down at an act: all that was done ahead of it kept.
type step []string

// steps fails, unless what is done to a disk with these files comes by these steps, and then is done. It is armed where do asks for it.
func steps(t *testing.T, files []string, do func(d *disk.Disk, arm func()) api.Errno, l ...step) {
	t.Helper()
	for i := range len(l) + 1 {
		d := made(t, ample, files...)
		e := do(d, func() { d.Arm(i + 1) })
		if i == len(l) {
			if e != api.OK || d.Down() {
				t.Errorf("error %d behind %d acts", e, i)
			}
			continue
		}
		if e != api.ErrDown {
			t.Errorf("act %d: error %d", i, e)
		}
		d.Crash([]int{all, all, all, all})
		holds(t, d, l[i]...)
	}
}

// P21.1, P21.2: which acts are done to the disk, and in which order.
func TestActs(t *testing.T) {
	u := branch("main", 0, 1)
	row, first, torn := did("n", u), are(refs.Begin()), "\x7fT"
	open := func(d *disk.Disk, arm func()) api.Errno {
		arm()
		_, e := journal.Open(d)
		return e
	}
	commit := func(d *disk.Disk, arm func()) api.Errno {
		j := opened(t, d)
		arm()
		return j.Commit([]api.Update{u}, "n")
	}
	renew := func(d *disk.Disk, arm func()) api.Errno {
		j := opened(t, d)
		good(t, d.Append("journal.new", []byte("x")))
		arm()
		return j.Renew()
	}
	steps(t, nil, open)
	steps(t, []string{"journal", row}, open)
	steps(t, []string{"journal", row, "journal.new", "x"}, open, step{"journal", row, "journal.new", "x"}) // remove
	steps(t, []string{"journal", torn}, open,                                                              // append, sync, rename, sync
		step{"journal", torn}, step{"journal", torn, "journal.new", first}, step{"journal", torn, "journal.new", first}, step{"journal", first})
	steps(t, []string{"journal", torn, "journal.new", "x"}, open, step{"journal", torn, "journal.new", "x"},
		step{"journal", torn}, step{"journal", torn, "journal.new", first}, step{"journal", torn, "journal.new", first}, step{"journal", first})
	steps(t, nil, commit, step{}, step{"journal", row}) // append, sync
	steps(t, []string{"journal", first}, commit, step{"journal", first}, step{"journal", first + row})
	steps(t, nil, renew, step{"journal.new", "x"}, step{}, step{"journal.new", first}, step{"journal.new", first}, step{"journal", first})
	steps(t, []string{"journal", first + first}, renew, step{"journal", first + first, "journal.new", "x"},
		step{"journal", first + first}, step{"journal", first + first, "journal.new", first}, step{"journal", first + first, "journal.new", first}, step{"journal", first})
}

// P21.1, P21.2: what is told is synced: a crash that keeps nothing else keeps it.
func TestSynced(t *testing.T) {
	u := branch("main", 0, 1)
	r := behind(t, refs.Begin(), "n", u)
	for what, torn := range map[string]string{"whole": "", "torn": "\x7fT"} {
		d := made(t, ample, "journal", did("n", u)+torn)
		j := opened(t, d)
		d.Crash(nil)
		tells(t, d, opened(t, d), r, map[string]string{"": did("n", u), "\x7fT": are(r)}[torn])
		good(t, j.Renew())
		d.Crash(nil)
		if b, _ := d.Read("journal"); string(b) != are(r) {
			t.Errorf("%s, made new: %q", what, b)
		}
		good(t, j.Commit(nil, "m"))
		d.Crash(nil)
		holds(t, d, "journal", are(r)+did("m"))
	}
}

// P21.3: behind an ErrDown the journal is lost, whatever becomes of the disk; it has the refs that were told.
func TestLost(t *testing.T) {
	u := branch("main", 0, 1)
	for acts, do := range map[int]func(j *journal.Journal) api.Errno{
		2: func(j *journal.Journal) api.Errno { return j.Commit([]api.Update{tag("v", 0, 1)}, "") },
		4: (*journal.Journal).Renew,
	} {
		for n := 1; n <= acts; n++ {
			d := disk.New(ample)
			j := opened(t, d)
			good(t, j.Commit([]api.Update{u}, ""))
			d.Arm(n)
			if e := do(j); e != api.ErrDown {
				t.Fatalf("act %d of %d: %d", n, acts, e)
			}
			for range 2 {
				for _, note := range []string{"", "\xff"} {
					if e := j.Commit(nil, note); e != api.ErrState {
						t.Errorf("Commit: %d", e)
					}
				}
				if e := j.Renew(); e != api.ErrState {
					t.Errorf("Renew: %d", e)
				}
				if r := behind(t, refs.Begin(), "", u); !same(j.Refs(), r) {
					t.Errorf("%v", j.Refs())
				}
				j.Size()
				d.Crash(nil)
			}
			j = opened(t, d)
			if r := behind(t, refs.Begin(), "", u); !same(j.Refs(), r) {
				t.Errorf("%v", j.Refs())
			}
		}
	}
	d, j, _ := grown(t, ample, 9000) // also where the making new is but on the way
	d.Arm(3)
	if e := j.Commit(nil, ""); e != api.ErrDown || j.Commit(nil, "") != api.ErrState {
		t.Errorf("error %d", e)
	}
	d, j, _ = grown(t, ample, 100) // a disk that is down for other reasons
	d.Arm(1)
	d.Append("x", nil)
	if e := j.Commit([]api.Update{branch("main", 0, 2)}, ""); e != api.ErrMoved { // nothing was done
		t.Errorf("error %d", e)
	}
	if e := j.Renew(); e != api.ErrDown || j.Renew() != api.ErrState {
		t.Errorf("error %d", e)
	}
}

// R4: what is handed in is neither changed nor kept, what is handed out is new.
func TestMemory(t *testing.T) {
	d := disk.New(ample)
	j := opened(t, d)
	room := []api.Update{branch("main", 0, 1), branch("dev", 0, 1), tag("v", 0, 1), tag("spare", 0, 1)}
	l := room[:3]
	good(t, j.Commit(l, "n"))
	if !slices.Equal(room, []api.Update{branch("main", 0, 1), branch("dev", 0, 1), tag("v", 0, 1), tag("spare", 0, 1)}) {
		t.Errorf("%v", room)
	}
	r := behind(t, refs.Begin(), "n", l...)
	clear(l)
	for range 3 {
		got := j.Refs()
		if !same(got, r) {
			t.Fatalf("%v", got)
		}
		clear(got.Branches[:cap(got.Branches)])
		clear(got.Tags[:cap(got.Tags)])
		clear(got.Log[:cap(got.Log)])
	}
	good(t, j.Commit([]api.Update{head("dev", 0)}, "m"), j.Renew())
	tells(t, d, j, behind(t, r, "m", head("dev", 0)), are(behind(t, r, "m", head("dev", 0))))
}

// P21.4: wherever one transaction, or a making new, crashes, and whatever of it stays.
func TestEachCrash(t *testing.T) {
	u := []api.Update{branch("main", 1, 2), tag("v", 0, 2)}
	ahead := behind(t, refs.Begin(), "n", branch("main", 0, 1))
	after := behind(t, ahead, "m", u...)
	met := map[string]int{}
	for _, torn := range []string{"", did("m", u...)[:90]} {
		for n := 1; n <= 7; n++ {
			for kept := range 3 {
				for bytes := range 200 {
					d := made(t, ample, "journal", did("n", branch("main", 0, 1))+torn)
					d.Arm(n)
					told := ahead
					if j, e := journal.Open(d); e == api.OK && j.Commit(u, "m") == api.OK {
						told = after
					}
					d.Crash([]int{kept, bytes, bytes})
					for again := 1; ; again++ {
						d.Arm(again)
						j, e := journal.Open(d)
						if e == api.ErrDown {
							d.Crash([]int{kept, bytes, bytes})
							continue
						}
						good(t, e)
						switch r := j.Refs(); {
						case same(r, told):
							met["what was told"]++
						case same(r, after):
							met["what was under way"]++
						default:
							t.Fatalf("act %d: %v", n, r)
						}
						break
					}
				}
			}
		}
	}
	if len(met) != 2 {
		t.Errorf("met %v", met)
	}
}

// P21.4: random transactions and crashes, again and again, in Open, too.
func TestCrashes(t *testing.T) {
	chance := rand.New(rand.NewSource(21))
	fate := func() int { return []int{0, all, chance.Intn(math.MaxInt)}[chance.Intn(3)] }
	fates := func() []int { return []int{fate(), fate(), fate()} }
	met := map[string]int{}
	for range 40 {
		d := disk.New(1500 + chance.Intn(30000))
		told := refs.Begin()
		under := told
		var j *journal.Journal
		for range 150 {
			if chance.Intn(12) == 0 {
				d.Arm(1 + chance.Intn(8))
			}
			if j == nil {
				var e api.Errno
				if j, e = journal.Open(d); e != api.OK && e != api.ErrDown {
					t.Fatalf("Open: %d", e)
				} else if e == api.OK && !same(j.Refs(), told) {
					if !same(j.Refs(), under) {
						t.Fatalf("%v; want %v or %v", j.Refs(), told, under)
					}
					told = under
					met["under way"]++
				}
				if e == api.OK {
					under = told // from here on what was under way is no more
				}
			} else if chance.Intn(10) == 0 {
				met["renew "+string(rune('0'+j.Renew()))]++
			} else {
				l, note := updates(chance), strings.Repeat("n", chance.Intn(200))
				next, e := refs.Apply(told, l, note)
				got := j.Commit(l, note)
				met["commit "+string(rune('0'+got))]++
				switch {
				case e != api.OK && got != e:
					t.Fatalf("%d; want %d", got, e)
				case got == api.OK:
					told, under = next, next
				case got == api.ErrDown:
					under = next
				}
				if !same(j.Refs(), told) {
					t.Fatalf("%v; want %v", j.Refs(), told)
				}
			}
			if d.Down() || chance.Intn(25) == 0 {
				d.Crash(fates())
				j = nil
			}
		}
	}
	for _, what := range []string{"under way", "commit 0", "commit 8", "commit 9", "renew 0", "renew 8", "renew 9"} {
		if met[what] == 0 {
			t.Errorf("%s was never met: %v", what, met)
		}
	}
}

// updates are some that may be done, or not.
func updates(chance *rand.Rand) []api.Update {
	var l []api.Update
	names := []string{"main", "a", "b", "c"}
	for range chance.Intn(3) {
		from, to := byte(chance.Intn(2)), byte(chance.Intn(2))
		l = append(l, []api.Update{branch(names[chance.Intn(4)], from, to), tag(names[chance.Intn(4)], from, to), head(names[chance.Intn(4)], 0), head("", 1)}[chance.Intn(4)])
	}
	return l
}
