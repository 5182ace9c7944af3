package disk_test

import (
	"fmt"
	"maps"
	"math"
	"math/rand"
	"slices"
	"strings"
	"testing"

	"variorum/api"
	"variorum/disk"
)

// ample is a quota that nothing here comes up to.
const ample = 1000

// good fails, if one of the errors is one.
func good(t *testing.T, errors ...api.Errno) {
	t.Helper()
	for i, e := range errors {
		if e != api.OK {
			t.Fatalf("act %d: error %d", i, e)
		}
	}
}

// holds fails, unless the disk has just these files (a name and its bytes in turn, in order of names).
func holds(t *testing.T, d *disk.Disk, files ...string) {
	t.Helper()
	got := []string{}
	used := 0
	for _, name := range d.List() {
		b, e := d.Read(name)
		good(t, e)
		got = append(got, name, string(b))
		used += len(b)
	}
	if !slices.Equal(got, files) || d.Used() != used {
		t.Errorf("%q, %d bytes used; want %q", got, d.Used(), files)
	}
}

// written is a disk with these files (a name and its bytes in turn), all of them synced.
func written(t *testing.T, files ...string) *disk.Disk {
	t.Helper()
	d := disk.New(ample)
	for i := 0; i < len(files); i += 2 {
		good(t, d.Append(files[i], []byte(files[i+1])), d.Sync(files[i]))
	}
	return d
}

// acts are all of them, done to names that are handed in.
func acts(d *disk.Disk, name, other string) map[string]api.Errno {
	_, read := d.Read(name)
	return map[string]api.Errno{"Append": d.Append(name, []byte("x")), "Sync": d.Sync(name), "Rename": d.Rename(name, other), "Remove": d.Remove(name), "Read": read}
}

// P6.1: quotas at their edges, and a new disk.
func TestNew(t *testing.T) {
	for _, quota := range []int{-1, math.MinInt, api.MaxQuota + 1, math.MaxInt} {
		if disk.New(quota) != nil {
			t.Errorf("quota %d", quota)
		}
	}
	for _, quota := range []int{0, 1, ample, api.MaxQuota - 1, api.MaxQuota} {
		d := disk.New(quota)
		if d == nil || len(d.List()) != 0 || d.Used() != 0 || d.Refused() != 0 || d.Down() {
			t.Fatalf("quota %d", quota)
		}
		for range 3 { // it is not armed
			good(t, d.Append("a", nil), d.Sync("a"))
		}
		holds(t, d, "a", "")
	}
}

// P6.2, P6.3, P6.4: a nil disk.
func TestNil(t *testing.T) {
	var d *disk.Disk
	d.Arm(1)
	d.Crash([]int{1, 2})
	for what, e := range acts(d, "", "") {
		if e != api.ErrArg {
			t.Errorf("%s: %d", what, e)
		}
	}
	for what, e := range acts(d, "a", "b") {
		if e != api.ErrArg {
			t.Errorf("%s: %d", what, e)
		}
	}
	if b, e := d.Read("a"); len(b) != 0 || e != api.ErrArg || len(d.List()) != 0 || d.Used() != 0 || d.Refused() != 0 || d.Down() {
		t.Error("of a nil disk there is nothing")
	}
}

// P6.2, P6.3: a disk that is down, whatever the names.
func TestDown(t *testing.T) {
	d := disk.New(4)
	good(t, d.Append("a", []byte("xy")), d.Sync("a"))
	if d.Append("a", []byte("xyz")) != api.ErrNoSpace {
		t.Error("no room")
	}
	d.Arm(1)
	if e := d.Append("a", []byte("z")); e != api.ErrDown || !d.Down() {
		t.Fatalf("error %d", e)
	}
	for _, names := range [][2]string{{"a", "b"}, {"no", "b"}, {"", "b"}, {"a", ""}, {strings.Repeat("x", 81), ""}} {
		for what, e := range acts(d, names[0], names[1]) {
			if e != api.ErrDown {
				t.Errorf("%s %q: %d", what, names, e)
			}
		}
	}
	if e := d.Append("a", []byte("much more")); e != api.ErrDown {
		t.Errorf("no room, down: %d", e)
	}
	if b, e := d.Read("a"); len(b) != 0 || e != api.ErrDown || len(d.List()) != 0 || d.Used() != 0 {
		t.Error("of one that is down there are no bytes and no names")
	}
	if d.Refused() != 1 || !d.Down() {
		t.Errorf("refused %d", d.Refused())
	}
	d.Arm(0)
	d.Arm(5)
	if !d.Down() || d.Sync("a") != api.ErrDown {
		t.Error("to arm it does not bring it up")
	}
	d.Crash(nil)
	if d.Down() || d.Refused() != 1 {
		t.Error("a crash brings it up")
	}
	holds(t, d, "a", "xy")
	for range 6 {
		good(t, d.Sync("a"))
	}
}

// P6.2: names of every length, of any bytes, and which error counts first.
func TestNames(t *testing.T) {
	for _, name := range []string{"a", "\x00", "/", "..", " ", "\xff\xfe", "é", strings.Repeat("x", 79), strings.Repeat("x", 80), strings.Repeat("é", 40)} {
		for what, e := range acts(disk.New(ample), name, name) {
			want := api.OK
			if what == "Read" { // ahead of Append
				want = api.ErrNone
			}
			if e != want {
				t.Errorf("%s %q: %d", what, name, e)
			}
		}
	}
	d := written(t, "a", "1")
	for _, name := range []string{"", strings.Repeat("x", 81), strings.Repeat("é", 41), strings.Repeat("x", 1000)} {
		for _, other := range []string{"a", "b", "", name} {
			for what, e := range acts(d, name, other) {
				if e != api.ErrName {
					t.Errorf("%s %q, %q: %d", what, name, other, e)
				}
			}
		}
		if e := d.Rename("a", name); e != api.ErrName {
			t.Errorf("Rename a to %q: %d", name, e)
		}
		if e := d.Rename("no", name); e != api.ErrName {
			t.Errorf("Rename of none to %q: %d", name, e)
		}
		if e := d.Append(name, make([]byte, 2*ample)); e != api.ErrName || d.Refused() != 0 {
			t.Errorf("Append %q without room: %d", name, e)
		}
	}
	holds(t, d, "a", "1")
}

// P6.2: files that are not there, gone ones too.
func TestNone(t *testing.T) {
	d := written(t, "a", "1", "b", "2", "c", "3")
	good(t, d.Remove("a"), d.Rename("b", "d"))
	for _, name := range []string{"a", "b", "e", "A"} {
		b, e := d.Read(name)
		if len(b) != 0 || e != api.ErrNone || d.Sync(name) != api.ErrNone || d.Remove(name) != api.ErrNone {
			t.Errorf("%s: %q, %d", name, b, e)
		}
		if d.Rename(name, "x") != api.ErrNone || d.Rename(name, "c") != api.ErrNone || d.Rename(name, name) != api.ErrNone {
			t.Errorf("Rename %s", name)
		}
	}
	holds(t, d, "c", "3", "d", "2")
}

// P6.2: bytes stand one behind the other; no bytes make a file, too.
func TestAppend(t *testing.T) {
	d := disk.New(ample)
	want := ""
	for _, s := range []string{"", "a", "bc", "", "\x00\xff\n", "end"} {
		good(t, d.Append("f", []byte(s)))
		want += s
		holds(t, d, "f", want)
	}
	good(t, d.Append("e", nil), d.Append("g", []byte{}), d.Append("f/", []byte("other")))
	holds(t, d, "e", "", "f", want, "f/", "other", "g", "")
}

// P6.2, P6.3: the quota at its edge, what is refused, and what makes room.
func TestQuota(t *testing.T) {
	d := disk.New(5)
	refuse := func(name, s string, count int) {
		t.Helper()
		before := d.List()
		if e := d.Append(name, []byte(s)); e != api.ErrNoSpace || d.Refused() != count || !slices.Equal(d.List(), before) {
			t.Errorf("%s %q: %d, refused %d", name, s, e, d.Refused())
		}
	}
	refuse("a", "123456", 1)
	good(t, d.Append("a", []byte("123")))
	refuse("b", "123", 2)
	refuse("a", "456", 3)
	good(t, d.Append("b", []byte("45")), d.Append("c", nil), d.Append("a", nil))
	refuse("c", "6", 4)
	if d.Used() != 5 {
		t.Errorf("used %d", d.Used())
	}
	good(t, d.Rename("b", "b"), d.Rename("c", "d"))
	refuse("b", "6", 5)
	good(t, d.Rename("a", "b")) // the two bytes of b are gone
	holds(t, d, "b", "123", "d", "")
	refuse("a", "456", 6)
	good(t, d.Append("a", []byte("45")), d.Remove("b"))
	refuse("d", "1234", 7)
	good(t, d.Append("d", []byte("123")))
	holds(t, d, "a", "45", "d", "123")
	zero := disk.New(0)
	good(t, zero.Append("a", nil))
	if zero.Append("a", []byte("1")) != api.ErrNoSpace || zero.Refused() != 1 {
		t.Error("a quota of 0")
	}
}

// P6.2: room counts by what is there behind a crash, be it more than the quota.
func TestQuotaCrash(t *testing.T) {
	d := disk.New(5)
	good(t, d.Append("a", []byte("123")), d.Append("b", []byte("45")), d.Sync("a"), d.Sync("b"))
	good(t, d.Remove("a"), d.Append("b", []byte("678")))
	d.Crash([]int{0, 0, 8})
	holds(t, d, "a", "123", "b", "45")
	good(t, d.Remove("a"), d.Append("b", []byte("678")))
	d.Crash([]int{0, 0, 3})
	holds(t, d, "a", "123", "b", "45678")
	if d.Append("b", []byte("9")) != api.ErrNoSpace || d.Append("b", nil) != api.ErrNoSpace || d.Refused() != 2 {
		t.Error("8 bytes of 5")
	}
	good(t, d.Remove("b"), d.Append("a", []byte("67")))
	d.Crash([]int{0})
	if d.Append("c", nil) != api.ErrNoSpace || d.Refused() != 3 {
		t.Error("b is there again")
	}
	holds(t, d, "a", "123", "b", "45678")
}

// P6.2: a file goes to another name, with all its bytes; a file that had it is gone.
func TestRename(t *testing.T) {
	d := written(t, "a", "1", "b", "22", "c", "333")
	good(t, d.Rename("a", "z"))
	holds(t, d, "b", "22", "c", "333", "z", "1")
	good(t, d.Rename("z", "c"))
	holds(t, d, "b", "22", "c", "1")
	good(t, d.Append("c", []byte("+")), d.Rename("c", "c"))
	holds(t, d, "b", "22", "c", "1+")
	good(t, d.Append("a", []byte("new")), d.Rename("c", "d"), d.Rename("a", "c"), d.Rename("d", "a"))
	holds(t, d, "a", "1+", "b", "22", "c", "new")
}

// P6.2: a removed file is gone; one of its name that comes behind it has nothing of it.
func TestRemove(t *testing.T) {
	d := written(t, "a", "1", "b", "22")
	good(t, d.Remove("a"))
	holds(t, d, "b", "22")
	good(t, d.Append("a", []byte("new")))
	holds(t, d, "a", "new", "b", "22")
	good(t, d.Remove("b"), d.Remove("a"))
	holds(t, d)
}

// P6.3: all names, in order of their bytes.
func TestList(t *testing.T) {
	names := []string{"\x00", "0", "A", "Z", "a", "a\x00", "a ", "aa", "b", "é", "\xff", "\xff\xff"}
	d := disk.New(ample)
	for _, i := range rand.New(rand.NewSource(16)).Perm(len(names)) {
		good(t, d.Append(names[i], []byte{byte(i)}))
	}
	want := []string{"\x00", "0", "A", "Z", "a", "a\x00", "a ", "aa", "b", "\xc3\xa9", "\xff", "\xff\xff"}
	if got := d.List(); !slices.Equal(got, want) || d.Used() != len(names) {
		t.Errorf("%q, %d", got, d.Used())
	}
}

// P6.4: armed for the n-th act, it is not done, nor is any behind it; what has another error is no act.
func TestArm(t *testing.T) {
	steps := func(d *disk.Disk) []func() api.Errno {
		return []func() api.Errno{
			func() api.Errno { return d.Append("c", []byte("3")) },
			func() api.Errno { return d.Rename("a", "d") },
			func() api.Errno { return d.Sync("c") },
			func() api.Errno { return d.Remove("b") },
			func() api.Errno { return d.Rename("d", "d") },
			func() api.Errno { return d.Append("d", nil) },
		}
	}
	states := [][]string{
		{"a", "1", "b", "2"}, {"a", "1", "b", "2"}, {"a", "1", "b", "2"}, // none of them synced
		{"b", "2", "c", "3", "d", "1"}, {"b", "2", "c", "3", "d", "1"}, {"b", "2", "c", "3", "d", "1"}, {"b", "2", "c", "3", "d", "1"},
	}
	for n := 1; n <= 7; n++ {
		d := written(t, "a", "1", "b", "2")
		d.Arm(n)
		for i, step := range steps(d) {
			d.Append("", nil)
			d.Append("a", make([]byte, ample))
			d.Sync("no")
			d.Rename("a", "")
			d.Remove("no")
			d.Read("a")
			d.List()
			want := api.OK
			if i+1 >= n {
				want = api.ErrDown
			}
			if e := step(); e != want || d.Down() != (want != api.OK) {
				t.Fatalf("armed for %d: step %d: %d", n, i+1, e)
			}
		}
		if n == 7 {
			holds(t, d, "c", "3", "d", "1")
		}
		d.Crash(nil)
		holds(t, d, states[n-1]...)
		for range 9 { // it is not armed any more
			good(t, d.Append("x", nil))
		}
	}
}

// P6.4: what is not done leaves nothing behind, whatever a crash keeps.
func TestArmNotDone(t *testing.T) {
	for _, step := range []func(d *disk.Disk) api.Errno{
		func(d *disk.Disk) api.Errno { return d.Append("a", []byte("+")) },
		func(d *disk.Disk) api.Errno { return d.Append("c", []byte("+")) },
		func(d *disk.Disk) api.Errno { return d.Rename("a", "b") },
		func(d *disk.Disk) api.Errno { return d.Rename("a", "a") },
		func(d *disk.Disk) api.Errno { return d.Remove("a") },
		func(d *disk.Disk) api.Errno { return d.Sync("a") },
	} {
		d := written(t, "a", "1", "b", "2")
		good(t, d.Append("a", []byte("345")))
		d.Arm(1)
		if e := step(d); e != api.ErrDown || d.Used() != 0 {
			t.Fatalf("error %d", e)
		}
		d.Crash([]int{1, 2, 1}) // had there been one act of the directory, it would be kept
		holds(t, d, "a", "134", "b", "2")
	}
}

// P6.4: to arm it again counts anew, and below 1 it is not armed.
func TestArmAgain(t *testing.T) {
	for _, n := range []int{0, -1, math.MinInt} {
		d := written(t, "a", "1")
		d.Arm(2)
		good(t, d.Sync("a"))
		d.Arm(n)
		for range 5 {
			good(t, d.Sync("a"))
		}
	}
	d := written(t, "a", "1")
	d.Arm(1)
	d.Arm(3)
	good(t, d.Sync("a"), d.Sync("a"))
	d.Arm(2)
	good(t, d.Sync("a"))
	if d.Sync("a") != api.ErrDown {
		t.Error("the second one")
	}
	d.Crash(nil)
	d.Arm(math.MaxInt)
	for range 5 {
		good(t, d.Sync("a"))
	}
	d.Arm(1)
	d.Crash(nil)
	good(t, d.Sync("a"), d.Sync("a"))
}

// The examples of the chapter.
func TestExamples(t *testing.T) {
	for _, x := range []struct {
		fates []int
		want  string
	}{{[]int{0, 0}, "xy"}, {[]int{0, 1}, "xyz"}} {
		d := disk.New(ample)
		good(t, d.Append("a", []byte("xy")), d.Sync("a"), d.Append("a", []byte("z")))
		d.Crash(x.fates)
		holds(t, d, "a", x.want)
	}
	d := disk.New(ample)
	good(t, d.Append("a", []byte("x")))
	d.Crash([]int{1, 1})
	holds(t, d, "a", "x")
	d = disk.New(ample)
	good(t, d.Append("a", []byte("x")))
	d.Crash([]int{0})
	holds(t, d)
}

// P6.4: of the directory's acts the first ones are kept, as many as the fate tells, modulo one more than there are.
func TestCrashDirectory(t *testing.T) {
	states := [][]string{
		{"a", "1", "b", "2"}, {"a", "1", "b", "2", "c", ""}, {"b", "2", "c", "", "d", "1"}, {"b", "2", "c", "", "d", "1"}, {"b", "1", "c", ""}, {"b", "1"}, {"b", "1", "c", ""},
	}
	for f := -20; f <= 20; f++ {
		d := written(t, "a", "1", "b", "2")
		good(t, d.Append("c", []byte("3")), d.Rename("a", "d"), d.Append("c", []byte("4")), d.Rename("d", "d"), d.Rename("d", "b"), d.Remove("c"), d.Append("c", []byte("5")))
		d.Crash([]int{f})
		holds(t, d, states[(f%7+7)%7]...)
	}
}

// P6.4: of each file some of the first bytes behind the synced ones are kept, modulo one more than there are.
func TestCrashBytes(t *testing.T) {
	for f := -9; f <= 9; f++ {
		for g := -9; g <= 9; g++ {
			d := written(t, "a", "12", "b", "", "c", "z")
			good(t, d.Append("c", []byte("y")), d.Append("a", []byte("345")), d.Append("b", []byte("6")), d.Append("b", []byte("7")))
			d.Crash([]int{77, f, g, 1, 1})
			holds(t, d, "a", "12345"[:2+(f%4+4)%4], "b", "67"[:(g%3+3)%3], "c", "zy")
		}
	}
}

// P6.4: each file takes a fate, be there nothing to choose, and so do the directory's acts; behind the last one they are 0.
func TestCrashFates(t *testing.T) {
	for _, x := range []struct {
		fates []int
		want  []string
	}{
		{nil, []string{"a", "1", "b", "2", "c", "3"}},
		{[]int{1}, []string{"a", "1", "b", "2", "c", "3"}},
		{[]int{1, 1}, []string{"a", "1", "b", "2", "c", "3"}},
		{[]int{1, 1, 1}, []string{"a", "1", "b", "2+", "c", "3"}},
		{[]int{1, 1, 1, 1}, []string{"a", "1", "b", "2+", "c", "3+"}},
		{[]int{0, 0, 0, 1, 1, 1}, []string{"a", "1", "b", "2", "c", "3+"}},
		{[]int{math.MaxInt, math.MinInt, math.MaxInt, math.MinInt}, []string{"a", "1", "b", "2+", "c", "3"}},
		{[]int{5, 5, -1, -2}, []string{"a", "1", "b", "2+", "c", "3"}},
	} {
		d := written(t, "a", "1", "b", "2", "c", "3")
		good(t, d.Append("c", []byte("+")), d.Append("b", []byte("+")))
		before := slices.Clone(x.fates)
		d.Crash(x.fates)
		holds(t, d, x.want...)
		if !slices.Equal(x.fates, before) {
			t.Error("the fates were changed")
		}
	}
}

// P6.4: the fates go by the names and the files of the directory that is left.
func TestCrashLeft(t *testing.T) {
	begin := func() *disk.Disk {
		d := written(t, "a", "1", "b", "2")
		good(t, d.Append("a", []byte("aa")), d.Append("b", []byte("bb")), d.Rename("a", "c"), d.Append("c", []byte("cc")), d.Remove("b"), d.Append("b", []byte("new")))
		return d
	}
	for _, x := range []struct {
		fates []int
		want  []string
	}{
		{[]int{0, 3, 1}, []string{"a", "1aac", "b", "2b"}}, // the file has its later bytes under its old name
		{[]int{1, 1, 3}, []string{"b", "2b", "c", "1aac"}}, // the new name stands behind b
		{[]int{2, 3}, []string{"c", "1aac"}},               // b is gone
		{[]int{3, 1, 4}, []string{"b", "n", "c", "1aacc"}}, // b is another one
		{[]int{3, 4, 9}, []string{"b", "", "c", "1aacc"}},  // of 4 and of 5 choices
		{[]int{7, 3, -1, 9}, []string{"b", "new", "c", "1aacc"}},
	} {
		d := begin()
		d.Crash(x.fates)
		holds(t, d, x.want...)
		d.Crash([]int{5, 5, 5, 5}) // all of it is synced now
		holds(t, d, x.want...)
	}
}

// P6.2: Sync keeps the bytes of its file alone, but all of the directory's acts so far.
func TestSync(t *testing.T) {
	d := written(t, "a", "1", "b", "2", "c", "3")
	good(t, d.Append("a", []byte("+")), d.Append("b", []byte("+")), d.Rename("c", "d"), d.Remove("b"), d.Append("e", []byte("5")), d.Append("f", []byte("6")))
	good(t, d.Sync("e"), d.Remove("a"), d.Append("g", nil))
	d.Crash(nil)
	holds(t, d, "a", "1", "d", "3", "e", "5", "f", "")
	good(t, d.Append("a", []byte("+")), d.Sync("a"), d.Append("a", []byte("-")))
	d.Crash([]int{0, 0})
	holds(t, d, "a", "1+", "d", "3", "e", "5", "f", "")
}

// P6.2, P6.4: a file is synced wherever its name went meanwhile; a crash syncs all that it keeps.
func TestSyncedStays(t *testing.T) {
	d := disk.New(ample)
	good(t, d.Append("a", []byte("12")), d.Rename("a", "b"), d.Append("b", []byte("3")), d.Sync("b"), d.Rename("b", "c"), d.Append("c", []byte("4")))
	d.Crash(nil)
	holds(t, d, "b", "123")
	good(t, d.Append("b", []byte("456")), d.Append("x", []byte("7")))
	d.Crash([]int{1, 2, 1})
	holds(t, d, "b", "12345", "x", "7")
	d.Crash(nil)
	holds(t, d, "b", "12345", "x", "7")
	good(t, d.Append("b", []byte("!")), d.Remove("x"))
	holds(t, d, "b", "12345!")
	d.Crash(nil)
	holds(t, d, "b", "12345", "x", "7")
	if d.Used() != 6 {
		t.Errorf("used %d", d.Used())
	}
}

// R4: what is handed in is not kept, what is handed out is new memory.
func TestNewMemory(t *testing.T) {
	d := disk.New(ample)
	room := []byte("abcdef")
	good(t, d.Append("f", room[:3]))
	copy(room, "XXX")
	holds(t, d, "f", "abc")
	b, _ := d.Read("f")
	b[0] = 'Y'
	_ = append(b, "YYYY"...)
	c, _ := d.Read("f")
	good(t, d.Append("f", []byte("d")))
	if string(c) != "abc" || string(room) != "XXXdef" {
		t.Errorf("%q, %q", c, room)
	}
	holds(t, d, "f", "abcd")
	l := d.List()
	l[0] = "Y"
	holds(t, d, "f", "abcd")
	d.Crash([]int{1, 2})
	b, _ = d.Read("f")
	good(t, d.Append("f", []byte("zz")))
	if string(b) != "ab" {
		t.Errorf("%q", b)
	}
	holds(t, d, "f", "abzz")
}

// model is a disk by the chapter's words: all files that ever were, by numbers, and all directories since the last Sync.
type model struct {
	quota, refused, armed int
	down                  bool
	files                 []string
	synced                []int
	states                []map[string]int // the first one is kept, the last one is seen
}

// seen is the directory as it is.
func (m *model) seen() map[string]int { return m.states[len(m.states)-1] }

// used is the bytes of all files.
func (m *model) used() int {
	n := 0
	for _, f := range m.seen() {
		n += len(m.files[f])
	}
	return n
}

// wrong is the first error of names, the first of which is to be there.
func (m *model) wrong(there bool, names ...string) api.Errno {
	if m.down {
		return api.ErrDown
	}
	for _, name := range names {
		if len(name) < 1 || len(name) > 80 {
			return api.ErrName
		}
	}
	if _, ok := m.seen()[names[0]]; there && !ok {
		return api.ErrNone
	}
	return api.OK
}

// fails counts an act: is it the one for which it is armed?
func (m *model) fails() bool {
	m.armed--
	m.down = m.armed == 0
	return m.down
}

// next is one more of the directory's acts.
func (m *model) next(act func(map[string]int)) {
	l := maps.Clone(m.seen())
	act(l)
	m.states = append(m.states, l)
}

// do does what is asked for, and tells its error.
func (m *model) do(kind int, name, to string, b []byte) api.Errno {
	e := m.wrong(kind != 0, name, to)
	switch {
	case e != api.OK:
		return e
	case kind == 0 && m.used()+len(b) > m.quota:
		m.refused++
		return api.ErrNoSpace
	case m.fails():
		return api.ErrDown
	}
	f, there := m.seen()[name]
	switch kind {
	case 0:
		if !there {
			f = len(m.files)
			m.files, m.synced = append(m.files, ""), append(m.synced, 0)
			m.next(func(l map[string]int) { l[name] = f })
		}
		m.files[f] += string(b)
	case 1:
		m.synced[f] = len(m.files[f])
		m.states = m.states[len(m.states)-1:]
	case 2:
		m.next(func(l map[string]int) {
			delete(l, name)
			l[to] = f
		})
	case 3:
		m.next(func(l map[string]int) { delete(l, name) })
	}
	return api.OK
}

// crash keeps what the fates tell.
func (m *model) crash(fates []int) {
	fates = append(slices.Clone(fates), make([]int, 100)...)
	taken := 0
	take := func(k int) int {
		taken++
		return (fates[taken-1]%k + k) % k
	}
	left := m.states[take(len(m.states))]
	for _, name := range slices.Sorted(maps.Keys(left)) {
		f := left[name]
		m.synced[f] += take(len(m.files[f]) - m.synced[f] + 1)
		m.files[f] = m.files[f][:m.synced[f]]
	}
	m.states, m.armed, m.down = []map[string]int{left}, 0, false
}

// differs tells what the disk and the model tell unlike, if anything.
func (m *model) differs(d *disk.Disk) string {
	if d.Down() != m.down || d.Refused() != m.refused {
		return fmt.Sprintf("down %t, refused %d; want %t, %d", d.Down(), d.Refused(), m.down, m.refused)
	}
	if m.down {
		return ""
	}
	if got, want := d.List(), slices.Sorted(maps.Keys(m.seen())); !slices.Equal(got, want) || d.Used() != m.used() {
		return fmt.Sprintf("%q, %d bytes; want %q, %d", got, d.Used(), want, m.used())
	}
	for name, f := range m.seen() {
		if b, e := d.Read(name); string(b) != m.files[f] || e != api.OK {
			return fmt.Sprintf("%s: %q, %d; want %q", name, b, e, m.files[f])
		}
	}
	return ""
}

// P6.2 to P6.5: whatever is done, crash upon crash, the disk is as the chapter's words have it.
func TestAnyActs(t *testing.T) {
	names := []string{"a", "b", "c", "dd", "a/b", "", strings.Repeat("n", 80), strings.Repeat("n", 81)}
	for seed := range 400 {
		chance := rand.New(rand.NewSource(int64(seed)))
		quota := []int{0, 7, 30, ample}[chance.Intn(4)]
		d, m := disk.New(quota), &model{quota: quota, states: []map[string]int{{}}}
		story := fmt.Sprintf("seed %d, quota %d", seed, quota)
		for range 150 {
			kind := []int{0, 0, 0, 0, 1, 2, 2, 3, 4, 5}[chance.Intn(10)]
			name, to := names[chance.Intn(5)], names[chance.Intn(5)]
			if chance.Intn(10) == 0 {
				name, to = names[chance.Intn(len(names))], names[chance.Intn(len(names))]
			}
			b := []byte("0123456789")[:chance.Intn(1+chance.Intn(11))]
			if kind != 2 {
				to = name
			}
			if kind < 4 {
				got := []func() api.Errno{
					func() api.Errno { return d.Append(name, b) }, func() api.Errno { return d.Sync(name) },
					func() api.Errno { return d.Rename(name, to) }, func() api.Errno { return d.Remove(name) },
				}[kind]()
				if want := m.do(kind, name, to, b); got != want {
					t.Fatalf("%s; kind %d of %q, %q, %q: %d, want %d", story, kind, name, to, b, got, want)
				}
			} else if kind == 4 && chance.Intn(3) > 0 {
				m.armed = chance.Intn(9) - 2
				d.Arm(m.armed)
			} else if kind == 5 && (m.down || chance.Intn(2) == 0) {
				fates := make([]int, chance.Intn(9))
				for i := range fates {
					fates[i] = int(chance.Uint64()) >> chance.Intn(64)
				}
				d.Crash(fates)
				m.crash(fates)
			}
			if s := m.differs(d); s != "" {
				t.Fatalf("%s; behind kind %d of %q, %q: %s", story, kind, name, to, s)
			}
		}
	}
}

// P6.5: what was synced and not touched any more is there behind any crash, and of each file there is a beginning of what it had.
func TestWhatFollows(t *testing.T) {
	for seed := range 200 {
		chance := rand.New(rand.NewSource(int64(1000 + seed)))
		d := written(t, "kept", "these bytes")
		full := map[string]string{"kept": "these bytes"}
		for i := range 30 {
			name := fmt.Sprint("f", i) // a name of its own, so that just one file ever had it
			full[name] = strings.Repeat(string(rune('a'+i%26)), 1+chance.Intn(9)) + "end"
			good(t, d.Append(name, []byte(full[name][:1])))
			if chance.Intn(3) == 0 {
				good(t, d.Sync(name))
			}
			good(t, d.Append(name, []byte(full[name][1:])))
			if chance.Intn(5) == 0 {
				good(t, d.Remove(name))
			}
			if chance.Intn(6) == 0 {
				d.Crash([]int{chance.Int(), chance.Int(), chance.Int(), chance.Int(), chance.Int(), chance.Int()})
			}
			for _, name := range d.List() {
				if b, _ := d.Read(name); !strings.HasPrefix(full[name], string(b)) {
					t.Fatalf("%s: %q of %q", name, b, full[name])
				}
			}
			if b, e := d.Read("kept"); string(b) != full["kept"] || e != api.OK {
				t.Fatalf("what was synced: %q, %d", b, e)
			}
		}
	}
}

// P6.2: many acts end soon.
func TestMany(t *testing.T) {
	d := disk.New(api.MaxQuota)
	for i := range 60000 {
		good(t, d.Append(fmt.Sprint(i), []byte("x")))
		if i%2 == 0 {
			good(t, d.Sync(fmt.Sprint(i)))
		}
	}
	d.Crash(nil)
	if d.Used() != 30000 || len(d.List()) != 59999 {
		t.Errorf("%d bytes, %d names", d.Used(), len(d.List()))
	}
}
