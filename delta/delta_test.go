package delta_test

import (
	"bytes"
	"encoding/binary"
	"math"
	"math/rand"
	"slices"
	"strings"
	"testing"
	"time"

	"variorum/api"
	"variorum/delta"
)

// num is numbers as bytes, as the library has them.
func num(l ...int) []byte {
	var b []byte
	for _, n := range l {
		b = binary.AppendUvarint(b, uint64(n))
	}
	return b
}

// added and copied are pieces.
func added(s string) []byte { return append(num(2*len(s)), s...) }

func copied(from, length int) []byte { return num(2*length+1, from) }

// told is a delta of pieces, with the lengths ahead of them.
func told(base, target int, pieces ...[]byte) []byte {
	return slices.Concat(num(base, target), slices.Concat(pieces...))
}

// random is n bytes, each one of k.
func random(r *rand.Rand, n, k int) []byte {
	b := make([]byte, n)
	for i := range b {
		b[i] = byte(r.Intn(k))
	}
	return b
}

// plain is the delta of a target upon a base, put down as the chapter tells it: each place of the base is tried.
func plain(base, target []byte) []byte {
	d := num(len(base), len(target))
	var row []byte
	for at := 0; at < len(target); {
		place, most := 0, 0
		for from := range base {
			n := 0
			for from+n < len(base) && at+n < len(target) && base[from+n] == target[at+n] {
				n++
			}
			if n > most {
				place, most = from, n
			}
		}
		if most < 8 {
			row = append(row, target[at])
			at++
			continue
		}
		if len(row) > 0 {
			d = append(d, added(string(row))...)
			row = nil
		}
		d = append(d, copied(place, most)...)
		at += most
	}
	if len(row) > 0 {
		d = append(d, added(string(row))...)
	}
	return d
}

// makes fails, unless the delta of the target upon the base is this one.
func makes(t *testing.T, base, target, want []byte) {
	t.Helper()
	if d := delta.Make(base, target); !bytes.Equal(d, want) {
		t.Errorf("of %.60q upon %.60q: %.60v; want %.60v", target, base, d, want)
	}
	holds(t, base, target)
}

// holds fails, unless what follows (P10.3) holds of the target and the base.
func holds(t *testing.T, base, target []byte) {
	t.Helper()
	d := delta.Make(base, target)
	if got, e := delta.Apply(base, d); e != api.OK || !bytes.Equal(got, target) {
		t.Errorf("%.60q upon %.60q comes to %.60q, %d", target, base, got, e)
	}
	if b, n, e := delta.Sizes(d); b != len(base) || n != len(target) || e != api.OK {
		t.Errorf("lengths %d, %d, %d", b, n, e)
	}
	if len(d) > 2*len(target)+18 {
		t.Errorf("%d bytes for %d", len(d), len(target))
	}
}

// applies fails, unless a delta upon the base comes to this.
func applies(t *testing.T, base string, d []byte, want string, e api.Errno) {
	t.Helper()
	got, f := delta.Apply([]byte(base), d)
	if string(got) != want || f != e {
		t.Errorf("%v upon %q: %.60q, %d; want %.60q, %d", d, base, got, f, want, e)
	}
}

// The examples of the chapter.
func TestExamples(t *testing.T) {
	makes(t, []byte("0123456789"), []byte("0123456789x"), []byte{10, 11, 21, 0, 2, 'x'})
	makes(t, nil, nil, []byte{0, 0})
	makes(t, []byte{}, []byte{}, []byte{0, 0})
}

// P10.1: where rows begin and end, and what is copied from where.
func TestMake(t *testing.T) {
	const d = "0123456789"
	for _, x := range []struct {
		base, target string
		pieces       [][]byte
	}{
		{"", "x", [][]byte{added("x")}},
		{d, "", nil},
		{"", d, [][]byte{added(d)}},
		{d, d, [][]byte{copied(0, 10)}},
		{"0123456", "0123456", [][]byte{added("0123456")}}, // 7 bytes are too few
		{"01234567", "01234567", [][]byte{copied(0, 8)}},
		{"01234567", "0123456", [][]byte{added("0123456")}},
		{d, "01234567", [][]byte{copied(0, 8)}},
		{d, "23456789", [][]byte{copied(2, 8)}},
		{d, "3456789", [][]byte{added("3456789")}},
		{d, "x0123456789y", [][]byte{added("x"), copied(0, 10), added("y")}},
		{d, d + d, [][]byte{copied(0, 10), copied(0, 10)}},
		{d + d, d + d, [][]byte{copied(0, 20)}},
		{d + d, d, [][]byte{copied(0, 10)}},                                           // the least place
		{d + "-" + d + "+", d + "+", [][]byte{copied(11, 11)}},                        // the longest
		{d + "-" + d + "+" + d + "+" + d, d + "+", [][]byte{copied(11, 11)}},          // the least place of the longest
		{d + "-" + d + "+", d + "*", [][]byte{copied(0, 10), added("*")}},             // the longest is in both
		{"b" + d + "a" + d, "a" + d, [][]byte{copied(11, 11)}},                        // not from the middle of a row
		{d + "abcdefgh", d[:9] + "abcdefgh", [][]byte{copied(0, 9), copied(10, 8)}},   // nothing between
		{d + "bcdefghij", "01234567bcdefghij", [][]byte{copied(0, 8), copied(10, 9)}}, // likewise
		{"89abcdef" + d, d + "abcdef", [][]byte{copied(8, 10), added("abcdef")}},      // what comes first is copied, be it ahead of more
		{"aaaaaaaaa", strings.Repeat("a", 20), [][]byte{copied(0, 9), copied(0, 9), added("aa")}},
		{strings.Repeat("a", 20), "baaaaaaaac", [][]byte{added("b"), copied(0, 8), added("c")}},
		{"caaaaaaaab", "aaaaaaaaaab", [][]byte{copied(1, 8), added("aab")}},
		{"\x00\x00\x00\x00\x00\x00\x00\x00\x00", "\x00\x00\x00\x00\x00\x00\x00\x00", [][]byte{copied(0, 8)}},
		{"\x00\x00\x00\x00\x00\x00\x00", "\x00\x00\x00\x00\x00\x00\x00\x00", [][]byte{added("\x00\x00\x00\x00\x00\x00\x00\x00")}}, // none behind the base's end
		{"\xff\xff\xff\xff\xff\xff\xff\xff\x00", "\xff\xff\xff\xff\xff\xff\xff\xff\xff\x00", [][]byte{copied(0, 8), added("\xff\x00")}},
		{"a\x00bcdefgh", "a\x00bcdefgh", [][]byte{copied(0, 9)}},
	} {
		want := told(len(x.base), len(x.target), x.pieces...)
		makes(t, []byte(x.base), []byte(x.target), want)
		if p := plain([]byte(x.base), []byte(x.target)); !bytes.Equal(p, want) {
			t.Errorf("the test's own: %v; want %v", p, want)
		}
	}
}

// P10.1: lengths and places whose numbers take more bytes than one.
func TestMakeGreat(t *testing.T) {
	r := rand.New(rand.NewSource(1))
	base := random(r, 70000, 256)
	for _, from := range []int{0, 127, 128, 16383, 16384, 60000} {
		for _, n := range []int{8, 63, 64, 8191, 8192} {
			target := base[from:min(from+n, len(base))]
			makes(t, base, target, told(len(base), len(target), copied(from, len(target))))
		}
	}
	for _, n := range []int{63, 64, 127, 128, 8191, 8192} {
		target := random(r, n, 256)
		makes(t, base, target, told(len(base), n, added(string(target))))
	}
	whole := random(r, api.MaxObject, 256)
	makes(t, whole, whole, told(api.MaxObject, api.MaxObject, copied(0, api.MaxObject)))
}

// P10.1, P10.3: as the chapter tells it, of random bytes with much in common.
func TestMakePlain(t *testing.T) {
	r := rand.New(rand.NewSource(2))
	for range 6000 {
		base := random(r, r.Intn(80), 1+r.Intn(3))
		target := random(r, r.Intn(30), 1+r.Intn(3))
		for range r.Intn(5) {
			from := r.Intn(len(base) + 1)
			row := base[from : from+r.Intn(len(base)-from+1)]
			if r.Intn(2) == 0 {
				target = slices.Concat(target, row, random(r, r.Intn(4), 3))
			} else {
				base = slices.Concat(base, random(r, r.Intn(4), 3), target, row)
			}
		}
		makes(t, base, target, plain(base, target))
	}
}

// P10.1, P10.3: all short rows of two bytes upon one another.
func TestMakeAll(t *testing.T) {
	bits := func(x, n int) []byte {
		b := make([]byte, n)
		for i := range b {
			b[i] = 'a' + byte(x>>i&1)
		}
		return b
	}
	bases := [][]byte{bits(0, 9), bits(1, 10), bits(0b10_0000_0001, 19), bits(0b0101010101010101, 16), bits(0b0011_0101_1100_1010, 16)}
	for n := range 11 {
		for x := range 1 << n {
			for _, base := range bases {
				makes(t, base, bits(x, n), plain(base, bits(x, n)))
				makes(t, bits(x, n), base, plain(bits(x, n), base))
			}
		}
	}
}

// P10.3, R1: of great objects, in which the same rows stand again and again, no place is tried against all others.
func TestMakeSoon(t *testing.T) {
	r := rand.New(rand.NewSource(3))
	rows := func(s string) []byte { return []byte(strings.Repeat(s, api.MaxObject/len(s))) }
	short, long := []byte{0}, []byte{1}
	for len(long) < api.MaxObject {
		short, long = long, slices.Concat(long, short)
	}
	half := random(r, api.MaxObject/2, 256)
	targets := [][]byte{make([]byte, api.MaxObject), rows("\x00\x00\x00\x00\x00\x00\x00\x00\x01"), long[:api.MaxObject]}
	bases := append(targets, rows(strings.Repeat("\x00", 300)+"\x01"), slices.Concat(half, half), random(r, api.MaxObject, 2))
	begun := time.Now()
	for _, base := range bases {
		for _, target := range targets {
			holds(t, base, target)
		}
	}
	if d := time.Since(begun); d > 2*time.Minute {
		t.Errorf("%v", d)
	}
}

// P10.2: two numbers, and whatever is behind them.
func TestSizes(t *testing.T) {
	for _, x := range [][]byte{nil, {0}, {5}, {128}, {128, 0, 5}, {5, 128}, {5, 128, 0}, {5, 255, 128, 0, 7}, slices.Concat([]byte{1}, num(math.MaxInt)[:8]), append(bytes.Repeat([]byte{255}, 9), 1, 1)} {
		if b, n, e := delta.Sizes(x); b != 0 || n != 0 || e != api.ErrForm {
			t.Errorf("%v: %d, %d, %d", x, b, n, e)
		}
		for _, base := range []string{"", "abcdefgh"} {
			applies(t, base, x, "", api.ErrForm)
		}
	}
	for _, l := range []int{0, 1, 127, 128, 300, api.MaxObject, api.MaxObject + 1, math.MaxInt} {
		for _, m := range []int{0, 5, 128, math.MaxInt} {
			for _, behind := range []string{"", "\x00", "\x80", "more"} {
				if b, n, e := delta.Sizes(append(num(l, m), behind...)); b != l || n != m || e != api.OK {
					t.Errorf("%d, %d: %d, %d, %d", l, m, b, n, e)
				}
			}
		}
	}
}

// P10.2: deltas that no Make makes, but that are right.
func TestApply(t *testing.T) {
	const base = "0123456789"
	applies(t, "", told(0, 0), "", api.OK)
	applies(t, base, told(10, 0), "", api.OK)
	applies(t, base, told(10, 1, copied(9, 1)), "9", api.OK)
	applies(t, base, told(10, 10, copied(0, 10)), base, api.OK)
	applies(t, base, told(10, 4, added("a"), added("b"), added("cd")), "abcd", api.OK)
	applies(t, base, told(10, 6, copied(5, 1), copied(4, 2), copied(0, 3)), "545012", api.OK)
	applies(t, base, told(10, 10, added(base)), base, api.OK)
	applies(t, base, told(10, 5, copied(1, 2), added("\x00"), copied(1, 2)), "12\x0012", api.OK)
	great := strings.Repeat("v", api.MaxObject)
	applies(t, "", told(0, api.MaxObject, added(great)), great, api.OK)
	applies(t, great+"w", told(api.MaxObject+1, api.MaxObject, copied(1, api.MaxObject)), great[1:]+"w", api.OK)
	applies(t, "v", told(1, api.MaxObject, slices.Repeat([][]byte{copied(0, 1)}, api.MaxObject)...), great, api.OK)
}

// P10.2: which error is told, and that of more than one the first.
func TestApplyErrors(t *testing.T) {
	const base = "0123456789"
	good := told(10, 11, copied(0, 10), added("x"))
	applies(t, base, good, base+"x", api.OK)
	for n := range len(good) { // cut short
		applies(t, base, good[:n], "", api.ErrForm)
	}
	for _, behind := range []string{"\x00", "\x01\x00", "\x02x", "\x03\x00", "\x80", "x"} {
		applies(t, base, append(slices.Clone(good), behind...), "", api.ErrForm)
	}
	for _, other := range []string{"", "012345678", "0123456789a"} { // another base's length
		applies(t, other, good, "", api.ErrForm)
	}
	applies(t, "abcdefghij", good, "abcdefghijx", api.OK) // of the same length: it cannot be told

	for _, n := range []int{api.MaxObject + 1, 2 * api.MaxObject, math.MaxInt} {
		great := added(strings.Repeat("v", api.MaxObject+1))
		applies(t, base, told(10, n), "", api.ErrLong)
		applies(t, base, told(10, n, great), "", api.ErrLong)
		applies(t, base, told(3, n, great), "", api.ErrLong)
		applies(t, base, told(math.MaxInt, n, []byte{0, 128}), "", api.ErrLong)
		applies(t, base, told(n, 0), "", api.ErrForm)
	}
	applies(t, base, told(10, api.MaxObject), "", api.ErrForm)

	for _, pieces := range [][]byte{
		{0}, {1}, {1, 0}, {0, 'x'}, // of no bytes
		copied(10, 1), copied(9, 2), copied(0, 11), copied(11, 1), copied(1, 10), // not within the base
		copied(math.MaxInt, 1), copied(math.MaxInt, math.MaxInt/2), copied(0, math.MaxInt/2), copied(1, math.MaxInt/2), copied(10, math.MaxInt/2),
		num(math.MaxInt - 1), num(math.MaxInt), num(math.MaxInt-1, 0), // more bytes than there are
		{4, 'x'}, {3}, {3, 128}, {3, 128, 0}, {130, 0, 'x'}, {131, 0, 0}, {128}, {255, 255, 255, 255, 255, 255, 255, 255, 255, 1, 0},
	} {
		for _, n := range []int{0, 1, 2, 10, 11, 12, api.MaxObject - 1} {
			applies(t, base, told(10, n, pieces), "", api.ErrForm)
			applies(t, base, told(10, n+1, added("y"), pieces), "", api.ErrForm)
			applies(t, base, told(10, n, added(strings.Repeat("y", n+1)), pieces), "", api.ErrForm)
		}
		applies(t, base, told(10, 2, pieces, added("yz")), "", api.ErrForm)
	}
	for _, n := range []int{0, 1, 10, 12, 13, api.MaxObject} { // another target's length
		applies(t, base, told(10, n, copied(0, 10), added("x")), "", api.ErrForm)
		applies(t, base, told(10, n, added("x"), copied(0, 10)), "", api.ErrForm)
	}
}

// plainApply is what a delta upon a base comes to, put down as the chapter tells it, and whether it is one.
func plainApply(base, d []byte) (target []byte, ok bool) {
	ok = true
	number := func() int {
		n, size := binary.Uvarint(d)
		if size <= 0 || n > math.MaxInt || len(num(int(n))) != size {
			ok, d = false, nil
			return 0
		}
		d = d[size:]
		return int(n)
	}
	had, length := number(), number()
	for ok && len(d) > 0 {
		n := number()
		odd, n := n%2 == 1, n/2
		row := d
		if odd {
			row = base[min(number(), len(base)):]
		}
		if !ok || n == 0 || n > len(row) {
			return nil, false
		}
		target = append(target, row[:n]...)
		if !odd {
			d = d[n:]
		}
	}
	return target, ok && had == len(base) && len(target) == length
}

// P10.2: deltas in which bytes were changed, dropped or put.
func TestApplyPlain(t *testing.T) {
	r := rand.New(rand.NewSource(4))
	right, wrong := 0, 0
	for range 100000 {
		base := random(r, r.Intn(24), 2)
		d := delta.Make(base, slices.Concat(base, random(r, r.Intn(12), 3), base[len(base)/2:]))
		for range r.Intn(3) {
			at := r.Intn(len(d))
			switch r.Intn(4) {
			case 0:
				d[at] = byte(r.Intn(256))
			case 1:
				d[at] += byte(r.Intn(5)) - 2
			case 2:
				d = slices.Delete(d, at, at+1)
			default:
				d = slices.Insert(d, at, byte(r.Intn(24)))
			}
			if len(d) == 0 {
				break
			}
		}
		want, ok := plainApply(base, slices.Clone(d))
		got, e := delta.Apply(base, d)
		switch {
		case e == api.ErrLong && len(got) == 0:
			if _, n, _ := delta.Sizes(d); n <= api.MaxObject {
				t.Fatalf("%v: %d", d, e)
			}
		case ok != (e == api.OK) || ok && !bytes.Equal(got, want) || !ok && (e != api.ErrForm || len(got) > 0):
			t.Fatalf("%v upon %v: %v, %d; want %v, %v", d, base, got, e, want, ok)
		case ok:
			right++
		default:
			wrong++
		}
	}
	if right < 10000 || wrong < 10000 {
		t.Errorf("%d right ones, %d wrong ones", right, wrong)
	}
}

// R4: what is handed in is not changed, nor what stands behind it; what is handed out is new.
func TestMemory(t *testing.T) {
	base, target := []byte("0123456789 behind"), []byte("01234567xy behind")
	d := delta.Make(base[:10], target[:10])
	if string(base) != "0123456789 behind" || string(target) != "01234567xy behind" {
		t.Fatal("changed")
	}
	kept := slices.Clone(d)
	got, e := delta.Apply(base[:10], d)
	if string(got) != "01234567xy" || e != api.OK || !bytes.Equal(d, kept) {
		t.Fatalf("%q, %d", got, e)
	}
	clear(got)
	_ = append(got, "more"...)
	if string(base) != "0123456789 behind" || !bytes.Equal(d, kept) {
		t.Error("shared")
	}
	same, _ := delta.Apply(base, delta.Make(base, base))
	clear(same)
	if string(base) != "0123456789 behind" {
		t.Error("shared with the base")
	}
	room := append(make([]byte, 0, 100), d...)
	clear(delta.Make(base[:10], target[:10]))
	if got, e := delta.Apply(base[:10], room); string(got) != "01234567xy" || e != api.OK {
		t.Errorf("%q, %d", got, e)
	}
}
