package vault_test

import (
	"bytes"
	"crypto/sha256"
	"encoding/hex"
	"fmt"
	"maps"
	"math"
	"math/rand"
	"slices"
	"strings"
	"testing"

	"variorum/api"
	"variorum/disk"
	"variorum/loose"
	"variorum/pack"
	"variorum/vault"
)

// ample is a quota that nothing here comes up to.
const ample = 1 << 28

// all keeps all that can be: as a fate it is -1 modulo any number of choices.
const all = -1

func sum(s string) api.Id { return sha256.Sum256([]byte(s)) }

// sums is the set of the texts' ids.
func sums(texts ...string) []api.Id {
	l := []api.Id{}
	for _, s := range texts {
		l = append(l, sum(s))
	}
	slices.SortFunc(l, func(a, b api.Id) int { return bytes.Compare(a[:], b[:]) })
	return slices.Compact(l)
}

func digits(s string) string {
	id := sum(s)
	return hex.EncodeToString(id[:])
}

// packed is the bytes of a pack of some texts, none upon another one, in order of their ids.
func packed(t *testing.T, texts ...string) string {
	t.Helper()
	return built(t, nil, texts...)
}

// built is the bytes of a pack of some texts, in order of their ids, upon bases (-1: none; nil: none at all).
func built(t *testing.T, bases []int, texts ...string) string {
	t.Helper()
	texts = slices.Clone(texts)
	slices.SortFunc(texts, func(a, b string) int { return strings.Compare(digits(a), digits(b)) })
	var parts []pack.Part
	for i, s := range texts {
		base := -1
		if bases != nil {
			base = bases[i]
		}
		parts = append(parts, pack.Part{Bytes: []byte(s), Base: base})
	}
	b, e := pack.Build(parts)
	good(t, e)
	return string(b)
}

// good fails, if one of the errors is one.
func good(t *testing.T, errors ...api.Errno) {
	t.Helper()
	for i, e := range errors {
		if e != api.OK {
			t.Fatalf("call %d: error %d", i, e)
		}
	}
}

// made is a disk with these files (a name and its bytes in turn), all of them kept over a crash.
func made(t *testing.T, quota int, files ...string) *disk.Disk {
	t.Helper()
	d := disk.New(quota)
	for i := 0; i < len(files); i += 2 {
		good(t, d.Append(files[i], []byte(files[i+1])), d.Sync(files[i]))
	}
	return d
}

// files is a name and its bytes in turn: of packs, then of texts in files of their own.
func files(packs []string, texts ...string) []string {
	var l []string
	for _, s := range packs {
		l = append(l, "p-"+digits(s), s)
	}
	for _, s := range texts {
		l = append(l, "o-"+digits(s), s)
	}
	return l
}

// holds fails, unless the disk has just these files (a name and its bytes in turn, in whatever order).
func holds(t *testing.T, d *disk.Disk, files ...string) {
	t.Helper()
	want := map[string]string{}
	for i := 0; i < len(files); i += 2 {
		want[files[i]] = files[i+1]
	}
	if l := d.List(); len(l) != len(want) {
		t.Errorf("files %q; want %q", l, slices.Sorted(maps.Keys(want)))
	}
	for name, s := range want {
		if b, e := d.Read(name); e != api.OK || string(b) != s {
			t.Errorf("%s: %.80q, %d; want %.80q", name, b, e, s)
		}
	}
}

// opened is a disk's vault.
func opened(t *testing.T, d *disk.Disk) *vault.Vault {
	t.Helper()
	v, e := vault.Open(d)
	if e != api.OK || v == nil {
		t.Fatalf("Open: %d", e)
	}
	return v
}

// has fails, unless just these texts are there, in so many packs.
func has(t *testing.T, v *vault.Vault, packs int, texts ...string) {
	t.Helper()
	if l := v.Ids(); !slices.Equal(l, sums(texts...)) || v.Packs() != packs {
		t.Errorf("%d ids in %d packs; want %d in %d", len(l), v.Packs(), len(texts), packs)
	}
	for _, s := range texts {
		if b, e := v.Get(sum(s)); e != api.OK || string(b) != s || !v.Has(sum(s)) {
			t.Errorf("%.20q: %.20q, %d", s, b, e)
		}
	}
	if b, e := v.Get(sum("not there")); e != api.ErrMissing || len(b) != 0 || v.Has(sum("not there")) {
		t.Errorf("not there: %q, %d", b, e)
	}
}

// put fails, unless Put tells the bytes' id, and that alone.
func put(t *testing.T, v *vault.Vault, texts ...string) {
	t.Helper()
	for _, s := range texts {
		if id, other, e := v.Put([]byte(s)); id != sum(s) || len(other) != 0 || e != api.OK {
			t.Fatalf("%.20q: %x, %q, %d", s, id, other, e)
		}
	}
}

// keep fails, unless Keep tells just this error.
func keep(t *testing.T, v *vault.Vault, want api.Errno, choices []int, texts ...string) {
	t.Helper()
	if clash, e := v.Keep(sums(texts...), choices); e != want || len(clash) != 0 {
		t.Fatalf("Keep: %q, %d; want %d", clash, e, want)
	}
}

// The examples of the chapter.
func TestExamples(t *testing.T) {
	d := disk.New(ample)
	v := opened(t, d)
	put(t, v, "abc")
	holds(t, d, files(nil, "abc")...)
	keep(t, v, api.OK, nil, "abc")
	holds(t, d, files([]string{packed(t, "abc")})...)
	has(t, v, 1, "abc")
	keep(t, v, api.OK, nil)
	holds(t, d)
	has(t, v, 0)
}

// P22.1: no disk, or one that is down; an empty one.
func TestOpen(t *testing.T) {
	down := made(t, ample, files([]string{packed(t, "a")}, "b")...)
	down.Arm(1)
	down.Append("a", nil)
	for want, d := range map[api.Errno]*disk.Disk{api.ErrArg: nil, api.ErrDown: down} {
		if v, e := vault.Open(d); v != nil || e != want {
			t.Errorf("%v, %d; want %d", v, e, want)
		}
	}
	down.Crash(nil)
	has(t, opened(t, down), 1, "a", "b")
	has(t, opened(t, disk.New(0)), 0)
}

// P22.1: of files only packs with the digits of their own sums count; none is touched.
func TestOpenFiles(t *testing.T) {
	right := []string{packed(t, "a", "b"), packed(t), packed(t, "b", "c"), built(t, []int{-1, 0}, "much the same", "much the same ")}
	l := files(right, "a", "loose")
	other := packed(t, "other")
	hex := digits(other)
	cut := packed(t, "x", "y")
	wrong := []string{
		"p-" + hex[:63], other, "p-" + hex + "0", other, "p-" + strings.ToUpper(hex), other, "P-" + hex, other,
		hex, other, "p" + hex, other, " p-" + hex, other, "p-p-" + hex, other, "o-" + hex, other + " ", "p-", other, "q", other,
		"p-" + digits("abc"), "abc", // its sum, but no pack
		"p-" + digits(""), "",
		"p-" + digits(cut), cut[:len(cut)-1],
		"p-" + digits("y"), other, // a pack of another sum
		"p-" + digits(other+"x"), other + "x",
	}
	l = append(l, wrong...)
	d := made(t, ample, l...)
	d.Arm(1)
	v := opened(t, d)
	if d.Down() {
		t.Fatal("an act was done")
	}
	has(t, v, 4, "a", "b", "c", "loose", "much the same", "much the same ")
	holds(t, d, l...)
}

// P22.2: what a pack has is not written; all else is in a file of its own, as layer 9 has it.
func TestPut(t *testing.T) {
	great := strings.Repeat("v", api.MaxObject)
	d := made(t, ample, files([]string{packed(t, "a", "", great)}, "b")...)
	v := opened(t, d)
	d.Arm(1)
	put(t, v, "a", "", great)
	if d.Down() {
		t.Fatal("an act was done")
	}
	d.Arm(0)
	put(t, v, "b", "c", "c", great[1:])
	holds(t, d, files([]string{packed(t, "a", "", great)}, "b", "c", great[1:])...)
	has(t, v, 1, "a", "", great, "b", "c", great[1:])
	d.Crash(nil)
	has(t, opened(t, d), 1, "a", "", great, "b", "c", great[1:])
	if id, other, e := v.Put([]byte(great + "v")); id != (api.Id{}) || len(other) != 0 || e != api.ErrLong {
		t.Errorf("%x, %q, %d", id, other, e)
	}
}

// P22.2: layer 9's errors, which count only for what no pack has.
func TestPutErrors(t *testing.T) {
	d := made(t, 2000, files([]string{packed(t, "a")})...)
	v := opened(t, d)
	d.Append("filler", make([]byte, 2000-d.Used()))
	refused := func(s string, want api.Errno) {
		t.Helper()
		if id, other, e := v.Put([]byte(s)); id != (api.Id{}) || len(other) != 0 || e != want {
			t.Errorf("%.9q: %x, %q, %d; want %d", s, id, other, e, want)
		}
	}
	refused("b", api.ErrNoSpace)
	refused(strings.Repeat("v", api.MaxObject+1), api.ErrLong)
	put(t, v, "a")
	d.Arm(1)
	d.Sync("filler")
	refused("b", api.ErrDown)
	refused(strings.Repeat("v", api.MaxObject+1), api.ErrLong)
	put(t, v, "a")
	if b, e := v.Get(sum("b")); e != api.ErrDown || len(b) != 0 || v.Has(sum("b")) {
		t.Errorf("%q, %d", b, e)
	}
}

// P22.2: too many bytes, be they in a pack.
func TestPutLong(t *testing.T) {
	great := strings.Repeat("v", api.MaxObject+1)
	id := sum(great)
	b := "P\x01\x00" + string([]byte{1 | 128, 128, 16}) + great // a pack that Build does not make: one object by its bytes
	place := func(n int) string { return string([]byte{0, byte(n >> 16), byte(n >> 8), byte(n)}) }
	fan := len(b)
	b += strings.Repeat(place(0), int(id[0])) + strings.Repeat(place(1), 256-int(id[0])) + string(id[:]) + place(2) + place(fan)
	trailer := sum(b)
	v := opened(t, made(t, ample, files([]string{b + string(trailer[:])})...))
	has(t, v, 1, great)
	if id, other, e := v.Put([]byte(great)); id != (api.Id{}) || len(other) != 0 || e != api.ErrLong {
		t.Errorf("%x, %q, %d", id, other, e)
	}
	keep(t, v, api.ErrLong, nil, great)
}

// P22.2: a file of an id whose bytes are others is none, and is written anew; Get tells a pack's bytes where there are some.
func TestGet(t *testing.T) {
	d := made(t, ample, append(files([]string{packed(t, "a", "b")}, "b", "c"), "o-"+digits("a"), "cut", "o-"+digits("d"), "cut", "o-d", "x")...)
	v := opened(t, d)
	has(t, v, 1, "a", "b", "c")
	if b, e := v.Get(sum("d")); e != api.ErrMissing || len(b) != 0 || v.Has(sum("d")) {
		t.Errorf("%q, %d", b, e)
	}
	put(t, v, "a", "d")
	has(t, v, 1, "a", "b", "c", "d")
	if b, _ := d.Read("o-" + digits("a")); string(b) != "cut" {
		t.Errorf("%q", b)
	}
	if v.Has(api.Id{}) {
		t.Error("the zero id")
	}
}

// P22.5: a nil vault.
func TestNil(t *testing.T) {
	var v *vault.Vault
	for _, n := range []int{0, 3, api.MaxObject + 1} {
		if id, other, e := v.Put(make([]byte, n)); id != (api.Id{}) || len(other) != 0 || e != api.ErrArg {
			t.Errorf("Put: %x, %q, %d", id, other, e)
		}
	}
	if b, e := v.Get(sum("")); len(b) != 0 || e != api.ErrArg {
		t.Errorf("Get: %q, %d", b, e)
	}
	for _, ids := range [][]api.Id{nil, sums("a")} {
		if clash, e := v.Keep(ids, []int{1}); len(clash) != 0 || e != api.ErrArg {
			t.Errorf("Keep: %q, %d", clash, e)
		}
	}
	if v.Has(sum("")) || len(v.Ids()) != 0 || v.Packs() != 0 {
		t.Error("a nil vault has something")
	}
}

// planned is Plan, as the chapter's words have it.
func planned(sizes, choices []int) (packs, bases []int) {
	packs, bases = []int{}, []int{}
	in, first, total := 0, 0, 0
	depth := map[int]int{}
	for i := range sizes {
		k := i - first
		if k == 1024 || total >= 131072 {
			in, first, total, k = in+1, i, 0, 0
		}
		choice := 0
		if len(choices) > 0 {
			choice = choices[i%len(choices)]
		}
		for choice < 0 && choice > -5000 {
			choice += k + 1
		}
		choice %= k + 1
		base := choice - 1
		if base >= 0 && depth[first+base] == 50 {
			base = -1
		}
		if base >= 0 {
			depth[i] = depth[first+base] + 1
		}
		packs, bases = append(packs, in), append(bases, base)
		if sizes[i] > 0 {
			total += min(sizes[i], 1<<20)
		}
	}
	return packs, bases
}

// row is n numbers, the i-th being f(i).
func row(n int, f func(i int) int) []int {
	var l []int
	for i := range n {
		l = append(l, f(i))
	}
	return l
}

// plans fails, unless Plan tells these.
func plans(t *testing.T, what string, sizes, choices, packs, bases []int) {
	t.Helper()
	if p, b := vault.Plan(sizes, choices); !slices.Equal(p, packs) || !slices.Equal(b, bases) {
		t.Errorf("%s: %v, %v; want %v, %v", what, p, b, packs, bases)
	}
}

// P22.3: in which pack each is, and upon what; at the edges.
func TestPlan(t *testing.T) {
	none := func(n int) []int { return row(n, func(int) int { return -1 }) }
	constant := func(c int) func(int) int { return func(int) int { return c } }
	plans(t, "nothing", nil, []int{1, 2}, nil, nil)
	plans(t, "one", []int{5}, []int{1, 2}, []int{0}, []int{-1}) // modulo 1
	plans(t, "without choices", []int{1, 2, 3}, nil, []int{0, 0, 0}, none(3))
	plans(t, "choices", []int{1, 1, 1, 1, 1, 1}, []int{9, 1, 2}, []int{0, 0, 0, 0, 0, 0}, []int{-1, 0, 1, 0, 0, 1})
	plans(t, "choices below 0", []int{1, 1, 1, 1, 1}, []int{-1}, []int{0, 0, 0, 0, 0}, []int{-1, 0, 1, 2, 3})
	plans(t, "choices at the edges", []int{1, 1, 1}, []int{math.MinInt}, []int{0, 0, 0}, []int{-1, -1, 0})
	plans(t, "choices at the other edges", []int{1, 1, 1}, []int{math.MaxInt}, []int{0, 0, 0}, []int{-1, 0, 0})
	plans(t, "bytes", []int{131071, 1, 1, 131072, 131073, 0, 131071, 0, 0, 1, 0}, []int{1}, []int{0, 0, 1, 1, 2, 3, 3, 3, 3, 3, 4}, []int{-1, 0, -1, 0, -1, -1, 0, 0, 0, 0, -1})
	plans(t, "sizes below 0", []int{-5, math.MinInt, 131071, -1, 1, -1}, nil, []int{0, 0, 0, 0, 0, 1}, none(6))
	plans(t, "great sizes", []int{1, math.MaxInt, 131071, math.MaxInt, math.MaxInt}, nil, []int{0, 0, 1, 1, 2}, none(5))
	many := 3000
	plans(t, "many", row(many, constant(0)), nil, row(many, func(i int) int { return i / 1024 }), none(many))
	plans(t, "many, each upon the one ahead", row(many, constant(0)), []int{-1}, row(many, func(i int) int { return i / 1024 }),
		row(many, func(i int) int {
			if i%1024%51 == 0 { // it would be 51 deep
				return -1
			}
			return i%1024 - 1
		}))
	plans(t, "full by ids and bytes", row(1025, constant(128)), nil, row(1025, func(i int) int { return i / 1024 }), none(1025))
	plans(t, "full by bytes first", row(1024, constant(129)), nil, row(1024, func(i int) int { return i / 1017 }), none(1024))
}

// P22.3: random sizes and choices against the plain words.
func TestPlanPlain(t *testing.T) {
	chance := rand.New(rand.NewSource(22))
	deep := 0
	for range 400 {
		most := []int{0, 100, 1000, 200000}[chance.Intn(4)]
		sizes := row(chance.Intn(2500), func(int) int { return chance.Intn(most+1) - chance.Intn(3) })
		choices := row(chance.Intn(6), func(int) int { return []int{0, 1, -1, chance.Intn(3000), -chance.Intn(2000)}[chance.Intn(5)] })
		if chance.Intn(3) == 0 {
			choices = []int{-1}
		}
		packs, bases := planned(sizes, choices)
		plans(t, "random", sizes, choices, packs, bases)
		for i := 1; i < len(bases); i++ {
			if bases[i] == -1 && packs[i] == packs[i-1] && len(choices) == 1 && choices[0] == -1 {
				deep++
			}
		}
	}
	if deep == 0 {
		t.Error("no chain was too deep")
	}
}

// P22.4: the ids are in packs, as Plan tells it, and nothing else is there.
func TestKeep(t *testing.T) {
	texts := []string{"", "a", "abcdefgh", "abcdefghi", "abcdefghij", "\xff"}
	others := []string{"x", "y"}
	d := made(t, ample, append(files([]string{packed(t, "a", "x", "z"), packed(t)}, "y", "abcdefgh", "a"),
		"p-"+digits("not"), "none", "o-"+digits("not"), "none", // names alone count
		"p-", "1", "o-", "2", "p-"+digits("a")[1:], "3", "o-"+digits("a")+"0", "4", "o-"+strings.ToUpper(digits("abc")), "5", "journal", "6", "o+"+digits("a"), "7")...)
	rest := []string{"p-", "1", "o-", "2", "p-" + digits("a")[1:], "3", "o-" + digits("a") + "0", "4", "o-" + strings.ToUpper(digits("abc")), "5", "journal", "6", "o+" + digits("a"), "7"}
	v := opened(t, d)
	put(t, v, texts...)
	has(t, v, 2, append(others, append(texts, "z")...)...)

	choices := []int{0, 0, 2, 1, 5}
	_, bases := vault.Plan(make([]int, len(texts)), choices)
	if slices.Max(bases) < 0 {
		t.Fatal("no bases")
	}
	keep(t, v, api.OK, choices, texts...)
	holds(t, d, append(files([]string{built(t, bases, texts...)}), rest...)...)
	has(t, v, 1, texts...)
	d.Crash([]int{all})
	has(t, opened(t, d), 1, texts...)

	put(t, v, "new")
	keep(t, v, api.OK, nil, append(texts, "new")...)
	holds(t, d, append(files([]string{packed(t, append(texts, "new")...)}), rest...)...)
	has(t, v, 1, append(texts, "new")...)

	keep(t, v, api.OK, choices, "a")
	holds(t, d, append(files([]string{packed(t, "a")}), rest...)...)
	put(t, v, "b")
	has(t, v, 1, "a", "b")
	keep(t, v, api.OK, choices)
	holds(t, d, rest...)
	has(t, v, 0)
	keep(t, v, api.OK, nil)
	holds(t, d, rest...)
}

// P22.4: an id counts once, wherever it stands.
func TestKeepSet(t *testing.T) {
	d := disk.New(ample)
	v := opened(t, d)
	put(t, v, "a", "b", "c")
	ids := sums("a", "b")
	clash, e := v.Keep([]api.Id{ids[1], ids[0], ids[1], ids[1], ids[0]}, nil)
	if e != api.OK || len(clash) != 0 {
		t.Fatalf("%q, %d", clash, e)
	}
	holds(t, d, files([]string{packed(t, "a", "b")})...)
}

// several is texts that go into three packs, and these packs.
func several(t *testing.T) (texts, packs []string) {
	t.Helper()
	for i := range 7 {
		texts = append(texts, strings.Repeat(string(rune('a'+i)), 60000)+"end")
	}
	slices.SortFunc(texts, func(a, b string) int { return strings.Compare(digits(a), digits(b)) })
	return texts, []string{packed(t, texts[:3]...), packed(t, texts[3:6]...), packed(t, texts[6:]...)}
}

// P22.4: many ids, and great ones, go into several packs.
func TestKeepSeveral(t *testing.T) {
	texts, packs := several(t)
	d := made(t, ample, files([]string{packed(t, texts[1:3]...)}, texts...)...)
	v := opened(t, d)
	keep(t, v, api.OK, nil, texts...)
	holds(t, d, files(packs)...)
	has(t, v, 3, texts...)
	has(t, opened(t, d), 3, texts...)

	var small []string
	for i := range 2500 {
		small = append(small, fmt.Sprint("text ", i))
	}
	slices.SortFunc(small, func(a, b string) int { return strings.Compare(digits(a), digits(b)) })
	put(t, v, small...)
	keep(t, v, api.OK, []int{-1}, small...)
	_, bases := vault.Plan(make([]int, len(small)), []int{-1})
	holds(t, d, files([]string{built(t, bases[:1024], small[:1024]...), built(t, bases[1024:2048], small[1024:2048]...), built(t, bases[2048:], small[2048:]...)})...)
	has(t, v, 3, small...)
	has(t, opened(t, d), 3, small...)
}

// P22.4: of one id that is not there nothing is kept, and nothing is changed.
func TestKeepMissing(t *testing.T) {
	l := append(files([]string{packed(t, "a")}, "b"), "o-"+digits("c"), "cut", "p-"+digits("d"), "d")
	d := made(t, ample, l...)
	v := opened(t, d)
	d.Arm(1)
	for _, s := range []string{"c", "d", "none"} {
		keep(t, v, api.ErrMissing, nil, "a", s, "b")
		keep(t, v, api.ErrMissing, []int{1}, s)
	}
	if clash, e := v.Keep([]api.Id{{}}, nil); e != api.ErrMissing || len(clash) != 0 || d.Down() {
		t.Errorf("the zero id: %q, %d", clash, e)
	}
	holds(t, d, l...)
	has(t, v, 1, "a", "b")
}

// P22.4: what has more bytes than an object may have can't be put into a pack: nothing is changed.
func TestKeepLong(t *testing.T) {
	great := strings.Repeat("v", api.MaxObject+1)
	d := made(t, ample, files(nil, "a", "b", great)...)
	v := opened(t, d)
	d.Arm(1)
	keep(t, v, api.ErrLong, nil, "a", "b", great)
	if d.Down() {
		t.Error("an act was done")
	}
	has(t, v, 0, "a", "b", great)
}

// P22.4: a disk that is down.
func TestKeepDown(t *testing.T) {
	d := made(t, ample, files([]string{packed(t, "a")}, "b")...)
	v := opened(t, d)
	d.Arm(1)
	d.Append("x", nil)
	keep(t, v, api.ErrMissing, nil, "b") // of a disk that is down there are no names
	keep(t, v, api.ErrMissing, nil, "a", "none")
	keep(t, v, api.ErrDown, nil, "a")
	if v.Packs() != 1 || !v.Has(sum("a")) {
		t.Error("the packs are others")
	}
	keep(t, v, api.OK, nil)
	if v.Packs() != 0 {
		t.Error("there is a pack")
	}
}

// step is what a disk has, if it goes down at an act: all that was done ahead of it kept.
type step []string

// steps fails, unless Keep of some texts, on a disk with these files, comes by these steps, and then is done.
func steps(t *testing.T, texts, had []string, l ...step) {
	t.Helper()
	for i := range len(l) + 1 {
		d := made(t, ample, had...)
		v := opened(t, d)
		before := v.Packs()
		d.Arm(i + 1)
		if i == len(l) {
			keep(t, v, api.OK, nil, texts...)
			if d.Down() {
				t.Errorf("more than %d acts", i)
			}
			has(t, v, v.Packs(), texts...)
			continue
		}
		keep(t, v, api.ErrDown, nil, texts...)
		if v.Packs() != before {
			t.Errorf("act %d: %d packs; want %d", i, v.Packs(), before)
		}
		d.Crash([]int{all, all, all, all, all, all, all, all, all, all, all, all})
		holds(t, d, l[i]...)
		has(t, opened(t, d), opened(t, d).Packs(), there(l[i], texts)...)
	}
}

// there is the texts whose bytes are those of files of their own, or in packs with all of them.
func there(files, texts []string) []string {
	var l []string
	for _, s := range texts {
		for i := 1; i < len(files); i += 2 {
			if files[i] == s || strings.HasPrefix(files[i], "P") && strings.Contains(files[i], s) {
				l = append(l, s)
				break
			}
		}
	}
	return l
}

// P22.4: which acts are done to the disk, and in which order.
func TestKeepActs(t *testing.T) {
	one := packed(t, "loose one")
	name := "p-" + digits(one)
	steps(t, nil, nil)
	steps(t, []string{"loose one"}, files(nil, "loose one"), // append, sync, remove
		files(nil, "loose one"), files([]string{one}, "loose one"), files([]string{one}, "loose one"))
	steps(t, []string{"loose one"}, files([]string{one}), files([]string{one}))     // sync
	steps(t, []string{"loose one"}, append(files(nil, "loose one"), name, "wrong"), // remove, append, sync, remove
		append(files(nil, "loose one"), name, "wrong"), files(nil, "loose one"), files([]string{one}, "loose one"), files([]string{one}, "loose one"))
	steps(t, []string{"loose one"}, append(files(nil, "loose one"), name, ""),
		append(files(nil, "loose one"), name, ""), files(nil, "loose one"), files([]string{one}, "loose one"), files([]string{one}, "loose one"))
	steps(t, []string{"loose one"}, append(files(nil, "loose one"), name, one+"x"),
		append(files(nil, "loose one"), name, one+"x"), files(nil, "loose one"), files([]string{one}, "loose one"), files([]string{one}, "loose one"))

	// The others are removed in order of names, packs' files first.
	digit := func(mark, c string) string { return mark + strings.Repeat(c, 64) }
	others := []string{digit("o-", "0"), "", digit("o-", "f"), "", digit("p-", "0"), "", digit("p-", "f"), ""}
	kept := files([]string{one})
	steps(t, []string{"loose one"}, append(others, kept...), append(others, kept...), append(others, kept...),
		append(slices.Concat(others[:4], others[6:]), kept...), append(others[:4:4], kept...), append(others[2:4:4], kept...))
}

// P22.4: several packs, each synced ahead of the next one, and all ahead of anything being removed.
func TestKeepActsSeveral(t *testing.T) {
	texts, packs := several(t)
	loose := files(nil, texts...)
	l := []step{loose}
	for i := range packs {
		now := append(files(packs[:i+1]), loose...)
		l = append(l, now, now)
	}
	order := slices.Clone(texts)
	slices.SortFunc(order, func(a, b string) int { return strings.Compare(digits(a), digits(b)) })
	for i := range order[1:] {
		l = append(l, files(packs, order[i+1:]...))
	}
	steps(t, texts, loose, l...)
	middle := append(files(packs[1:2]), loose...) // one is there already
	l = []step{middle, append(files(packs[:2]), loose...), append(files(packs[:2]), loose...), append(files(packs[:2]), loose...), append(files(packs), loose...), append(files(packs), loose...)}
	for i := range order[1:] {
		l = append(l, files(packs, order[i+1:]...))
	}
	steps(t, texts, middle, l...)
}

// P22.4: no room: the files that were appended are removed, and nothing is changed.
func TestKeepNoSpace(t *testing.T) {
	texts, packs := several(t)
	had := append(files([]string{packs[1], packed(t, "a")}, texts...), "x", "other")
	d := made(t, ample, had...)
	used := d.Used()
	for room := 0; room <= len(packs[0])+len(packs[2]); room += 30000 {
		d := made(t, used+room, had...)
		v := opened(t, d)
		refused := d.Refused()
		keep(t, v, api.ErrNoSpace, nil, texts...)
		holds(t, d, had...)
		has(t, v, 2, append(texts, "a")...)
		if d.Refused() != refused+1 {
			t.Errorf("refused %d", d.Refused())
		}
		d.Crash(nil) // a crash may bring them back
		has(t, opened(t, d), opened(t, d).Packs(), append(texts, "a")...)
	}
	d = made(t, used+len(packs[0])+len(packs[2]), had...)
	v := opened(t, d)
	keep(t, v, api.OK, nil, texts...)
	holds(t, d, append(files(packs), "x", "other")...)

	d = made(t, used+len(packs[0]), had...) // the disk goes down as they are removed
	v = opened(t, d)
	d.Arm(4) // append, sync, sync, remove
	keep(t, v, api.ErrDown, nil, texts...)
	d.Crash(nil)
	has(t, opened(t, d), 3, append(texts, "a")...)
}

// P22.4: a wrong file of a pack's name is removed first, which makes room; it stays so where there is none all the same.
func TestKeepNoSpaceWrong(t *testing.T) {
	one := packed(t, "a")
	wrong := append(files(nil, "a"), "p-"+digits(one), strings.Repeat("w", len(one)))
	d := made(t, len(one)+1, wrong...)
	keep(t, opened(t, d), api.OK, nil, "a")
	holds(t, d, files([]string{one})...)
	d = made(t, ample, wrong...)
	d = made(t, d.Used()-1, append(files(nil, "a"), "p-"+digits(one), strings.Repeat("w", len(one)-1))...)
	keep(t, opened(t, d), api.ErrNoSpace, nil, "a")
	holds(t, d, files(nil, "a")...)
}

// R4: what is handed in is neither changed nor kept, what is handed out is new.
func TestMemory(t *testing.T) {
	d := disk.New(ample)
	v := opened(t, d)
	room := []byte("abcdef")
	for range 2 {
		if _, _, e := v.Put(room[:3]); e != api.OK || string(room) != "abcdef" {
			t.Fatalf("%q, %d", room, e)
		}
		b, _ := v.Get(sum("abc"))
		clear(b[:cap(b)])
		clear(v.Ids())
		has(t, v, v.Packs(), "abc")
		ids, choices := []api.Id{{31: 1}, sum("abc"), {}, {2}}, []int{4, 3, 2, 1}
		if _, e := v.Keep(ids[1:2], choices[:2]); e != api.OK || !slices.Equal(ids, []api.Id{{31: 1}, sum("abc"), {}, {2}}) || !slices.Equal(choices, []int{4, 3, 2, 1}) {
			t.Fatalf("%x, %v, %d", ids, choices, e)
		}
		clear(ids)
	}
	sizes, choices := []int{-1, 2, 3}, []int{7, -8, 9}
	packs, bases := vault.Plan(sizes[:2], choices[:2])
	clear(packs)
	clear(bases)
	if !slices.Equal(sizes, []int{-1, 2, 3}) || !slices.Equal(choices, []int{7, -8, 9}) {
		t.Errorf("%v, %v", sizes, choices)
	}
}

// P22.5: wherever Keep crashes, and whatever stays, each of the ids is there with its bytes; behind it just these.
func TestCrashes(t *testing.T) {
	chance := rand.New(rand.NewSource(5))
	fates := func() []int {
		return row(40, func(int) int { return []int{0, all, chance.Intn(math.MaxInt)}[chance.Intn(3)] })
	}
	var pool []string
	for i := range 12 {
		pool = append(pool, fmt.Sprint("text ", i, strings.Repeat("x", []int{0, 50, 70000}[i%3])))
	}
	met := map[string]int{}
	for range 16 {
		d := disk.New(300000 + chance.Intn(900000))
		v := opened(t, d)
		sure := map[string]bool{} // what is there, whatever happens
		for range 40 {
			if chance.Intn(3) == 0 {
				d.Arm(1 + chance.Intn(14))
			}
			if chance.Intn(3) > 0 {
				s := pool[chance.Intn(len(pool))]
				if id, _, e := v.Put([]byte(s)); e == api.OK && id == sum(s) {
					sure[s] = true
				}
			} else {
				var texts []string
				for _, s := range pool {
					if sure[s] && chance.Intn(6) > 0 {
						texts = append(texts, s)
					}
				}
				clash, e := v.Keep(sums(texts...), row(chance.Intn(4), func(int) int { return chance.Intn(4) - 1 }))
				met[fmt.Sprint("keep ", e)]++
				if e != api.ErrNoSpace { // what is not among them may have gone
					sure = map[string]bool{}
					for _, s := range texts {
						sure[s] = true
					}
				}
				if e == api.OK {
					has(t, v, v.Packs(), texts...)
				}
				if len(clash) != 0 {
					t.Fatalf("%q", clash)
				}
			}
			if d.Down() || chance.Intn(8) == 0 {
				d.Crash(fates())
				v = opened(t, d)
			}
			for s := range sure {
				if b, e := v.Get(sum(s)); e != api.OK || string(b) != s || !v.Has(sum(s)) {
					t.Fatalf("%.20q: %.20q, %d", s, b, e)
				}
			}
			for _, id := range v.Ids() {
				if b, e := v.Get(id); e != api.OK || sha256.Sum256(b) != id {
					t.Fatalf("%x: %.20q, %d", id, b, e)
				}
			}
		}
	}
	for _, what := range []string{"keep 0", "keep 8", "keep 9"} {
		if met[what] == 0 {
			t.Errorf("%s was never met: %v", what, met)
		}
	}
}

// P22.5: a vault whose disk has crashed does not panic.
func TestCrashedVault(t *testing.T) {
	d := made(t, ample, files([]string{packed(t, "a", "b")}, "c")...)
	v := opened(t, d)
	good(t, d.Remove("p-"+digits(packed(t, "a", "b"))), d.Append("o-"+digits("d"), []byte("d")))
	d.Crash([]int{all})
	for range 2 {
		v.Put([]byte("a"))
		v.Put([]byte("e"))
		v.Get(sum("a"))
		v.Get(sum("d"))
		v.Has(sum("c"))
		v.Ids()
		v.Packs()
		v.Keep(sums("a", "c"), []int{1})
		d.Arm(1)
		d.Append("x", nil)
	}
}

// P22.2: what List of layer 9 tells is among the ids, each once.
func TestIds(t *testing.T) {
	d := made(t, ample, files([]string{packed(t, "a", "b"), packed(t, "b", "c")}, "a", "c", "d")...)
	v := opened(t, d)
	has(t, v, 2, "a", "b", "c", "d")
	good(t, loose.Drop(d, sum("d")), loose.Drop(d, sum("a")))
	has(t, v, 2, "a", "b", "c")
}
