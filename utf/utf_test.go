package utf_test

import (
	"math"
	"math/rand"
	"slices"
	"strings"
	"testing"

	"variorum/api"
	"variorum/utf"
)

// may: may r be a rune?
func may(r rune) bool { return r >= 0 && r <= 0x10ffff && (r < 0xd800 || r > 0xdfff) }

// form is the bytes that a number would have, by the chapter's words, in so many bytes.
func form(r rune, size int) string {
	low := func(from int) byte { return byte(0x80 + r>>from&0x3f) }
	switch size {
	case 1:
		return string([]byte{byte(r)})
	case 2:
		return string([]byte{byte(0xc0 + r>>6), low(0)})
	case 3:
		return string([]byte{byte(0xe0 + r>>12), low(6), low(0)})
	}
	return string([]byte{byte(0xf0 + r>>18), low(12), low(6), low(0)})
}

// sizeOf is how many bytes a rune has.
func sizeOf(r rune) int {
	switch {
	case r < 0x80:
		return 1
	case r < 0x800:
		return 2
	case r < 0x10000:
		return 3
	}
	return 4
}

// first is the rune whose bytes s begins with; size 0: there is none.
func first(s string) (r rune, size int) {
	for size := 1; size <= min(4, len(s)); size++ {
		r := rune(s[0]) & []rune{0x7f, 0x1f, 0x0f, 0x07}[size-1]
		for i := 1; i < size; i++ {
			r = r<<6 | rune(s[i]&0x3f)
		}
		if may(r) && sizeOf(r) == size && form(r, size) == s[:size] {
			return r, size
		}
	}
	return 0, 0
}

// split is the runes of s up to the first place that is wrong, and that place; -1: s is a text.
func split(s string) (l []rune, wrong int) {
	for at := 0; at < len(s); {
		r, size := first(s[at:])
		if size == 0 {
			return l, at
		}
		l = append(l, r)
		at += size
	}
	return l, -1
}

// edges are the first and the last runes of each number of bytes, those around the surrogates, and others.
var edges = []rune{
	0, 1, '\n', 'a', 0x7f, 0x80, 0x81, 0xbf, 0xc0, 0xff, 0x7ff, 0x800, 0xfff, 0x1000, 0x20ac, 0xd7ff, 0xe000,
	0xfeff, 0xfffc, 0xfffd, 0xfffe, 0xffff, 0x10000, 0x1f600, 0x3ffff, 0x40000, 0xfffff, 0x100000, 0x10fffe, 0x10ffff,
}

// noRunes may not be.
var noRunes = []rune{-1, -2, -0x80, math.MinInt32, 0xd800, 0xd801, 0xdbff, 0xdc00, 0xdfff, 0x110000, 0x1fffff, 0x200000, math.MaxInt32}

// noTexts are bytes that no text may have anywhere, behind whatever and ahead of ASCII.
var noTexts = []string{
	"\x80", "\xbf", "\xc0\x80", "\xc1\xbf", "\xc0", "\xc2", "\xc3(", "\xc2\xc2\x80", "\xdf\x7f", "\xdf\xc0",
	"\xe0\x80\x80", "\xe0\x9f\xbf", "\xe2\x82", "\xe2", "\xe2\x82\x7f", "\xe2(\xa1", "\xe2\x82\xc0", "\xef\xbf",
	"\xed\xa0\x80", "\xed\xbf\xbf", "\xed\xa0\xbd\xed\xb8\x80",
	"\xf0\x80\x80\x80", "\xf0\x8f\xbf\xbf", "\xf0\x9f\x98", "\xf0\x9f", "\xf0", "\xf0\x9f\x98\x7f", "\xf0\x9f\x98\xc0",
	"\xf4\x90\x80\x80", "\xf5\x80\x80\x80", "\xf7\xbf\xbf\xbf", "\xf8\x88\x80\x80\x80", "\xfc\x84\x80\x80\x80\x80", "\xfe", "\xff", "\xfe\xff",
}

// mixed are rows of bytes that are texts, or nearly.
func mixed() []string {
	l := slices.Clone(noTexts)
	chance := rand.New(rand.NewSource(3))
	for range 20000 {
		var s strings.Builder
		for range chance.Intn(7) {
			if chance.Intn(12) == 0 {
				s.WriteString(noTexts[chance.Intn(len(noTexts))])
			} else {
				s.WriteString(string(edges[chance.Intn(len(edges))]))
			}
		}
		b := []byte(s.String())
		if len(b) > 0 && chance.Intn(4) == 0 {
			b[chance.Intn(len(b))] ^= 1 << chance.Intn(8)
		}
		if len(b) > 0 && chance.Intn(4) == 0 {
			b = b[:chance.Intn(len(b))]
		}
		l = append(l, string(b))
	}
	return l
}

// P3.1: every rune has the bytes that the chapter tells, and is read out of them, wherever they stand.
func TestEveryRune(t *testing.T) {
	for r := rune(-0x100); r <= 0x120000; r++ {
		s, e := utf.Encode(r)
		if !may(r) {
			if s != "" || e != api.ErrText {
				t.Fatalf("Encode %x: %q, %d", r, s, e)
			}
			continue
		}
		if s != form(r, sizeOf(r)) || e != api.OK {
			t.Fatalf("Encode %x: %q, %d", r, s, e)
		}
		got, next, e := utf.Decode("\xff"+s+"\x80", 1)
		if got != r || next != 1+len(s) || e != api.OK {
			t.Fatalf("Decode %x: %x, %d, %d", r, got, next, e)
		}
	}
}

// P3.1: numbers that are no runes, and that in their bytes' form are read as none.
func TestNoRunes(t *testing.T) {
	for _, r := range noRunes {
		if s, e := utf.Encode(r); s != "" || e != api.ErrText {
			t.Errorf("Encode %x: %q, %d", r, s, e)
		}
	}
	for r := rune(0xd800); r <= 0xdfff; r++ {
		if got, next, e := utf.Decode(form(r, 3), 0); got != 0 || next != 0 || e != api.ErrText {
			t.Fatalf("Decode %x: %x, %d, %d", r, got, next, e)
		}
	}
	for r := rune(0x110000); r <= 0x1fffff; r++ {
		if got, next, e := utf.Decode(form(r, 4), 0); got != 0 || next != 0 || e != api.ErrText {
			t.Fatalf("Decode %x: %x, %d, %d", r, got, next, e)
		}
	}
}

// P3.1: a rune in more bytes than it has is none.
func TestLongForms(t *testing.T) {
	for r := rune(0); r <= 0xffff; r++ {
		for size := sizeOf(r) + 1; size <= 4; size++ {
			if got, next, e := utf.Decode(form(r, size), 0); got != 0 || next != 0 || e != api.ErrText {
				t.Fatalf("Decode %x in %d bytes: %x, %d, %d", r, size, got, next, e)
			}
		}
	}
}

// P3.1: whatever stands at a place, it is a rune's bytes or ErrText; what is ahead of it does not count.
func TestDecodeEverywhere(t *testing.T) {
	for _, s := range mixed() {
		for at := range len(s) {
			want, size := first(s[at:])
			r, next, e := utf.Decode(s, at)
			switch {
			case size == 0 && (r != 0 || next != 0 || e != api.ErrText):
				t.Fatalf("%q at %d: %x, %d, %d", s, at, r, next, e)
			case size > 0 && (r != want || next != at+size || e != api.OK):
				t.Fatalf("%q at %d: %x, %d, %d; want %x", s, at, r, next, e, want)
			}
		}
	}
}

// P3.1: every two bytes, and the three and four behind the first bytes that are apart.
func TestDecodeRows(t *testing.T) {
	check := func(b ...byte) {
		want, size := first(string(b))
		r, next, e := utf.Decode(string(b), 0)
		if r != want || next != size || (e == api.OK) != (size > 0) || size == 0 && e != api.ErrText {
			t.Fatalf("%x: %x, %d, %d", b, r, next, e)
		}
	}
	marks := []byte{0, 0x7f, 0x80, 0x8f, 0x90, 0x9f, 0xa0, 0xbf, 0xc0, 0xff}
	for v := range 1 << 16 {
		a, b := byte(v>>8), byte(v)
		check(a)
		check(a, b)
		if a >= 0xe0 {
			for _, c := range marks {
				check(a, b, c)
				for _, d := range marks {
					check(a, b, c, d)
				}
			}
		}
	}
}

// P3.1: places that are none, of texts and of no texts.
func TestDecodePlaces(t *testing.T) {
	for _, s := range []string{"", "a", "α", "\xff", "\xe2\x82"} {
		for _, at := range []int{-1, -5, math.MinInt, len(s), len(s) + 1, math.MaxInt} {
			if r, next, e := utf.Decode(s, at); r != 0 || next != 0 || e != api.ErrArg {
				t.Errorf("%q at %d: %x, %d, %d", s, at, r, next, e)
			}
		}
	}
}

// P3.2: Check, Runes and Count of texts and of no texts.
func TestTextsAndNone(t *testing.T) {
	for _, s := range append(mixed(), "", "a", "aαb", strings.Repeat("€", 5000), strings.Repeat("x", 5000)+"\xff") {
		want, wrong := split(s)
		at, e := utf.Check(s)
		runes, place, f := utf.Runes(s)
		n, g := utf.Count(s)
		if wrong < 0 {
			if at != 0 || e != api.OK || place != 0 || f != api.OK || !slices.Equal(runes, want) || n != len(want) || g != api.OK {
				t.Fatalf("%.50q: Check %d, %d; Runes %.20x, %d, %d; Count %d, %d", s, at, e, runes, place, f, n, g)
			}
		} else if at != wrong || e != api.ErrText || place != wrong || f != api.ErrText || len(runes) != 0 || n != 0 || g != api.ErrText {
			t.Fatalf("%.50q: Check %d, %d; Runes %.20x, %d, %d; Count %d, %d", s, at, e, runes, place, f, n, g)
		}
	}
}

// P3.2: the chapter's examples, and the rune FFFD, which is one as any other.
func TestCheckKnown(t *testing.T) {
	for s, wrong := range map[string]int{"\xe2\x82": 0, "a\xc0\x80": 1, "€\xef\xbf": 3, "\xef\xbf\xbd\x80": 3, "aα\xed\xa0\x80": 3, "ab\xf4\x90\x80\x80": 2} {
		if at, e := utf.Check(s); at != wrong || e != api.ErrText {
			t.Errorf("%q: %d, %d", s, at, e)
		}
	}
	if l, at, e := utf.Runes("\xef\xbf\xbd"); len(l) != 1 || l[0] != 0xfffd || at != 0 || e != api.OK {
		t.Errorf("FFFD: %x, %d, %d", l, at, e)
	}
	if s, e := utf.Encode(0x20ac); s != "\xe2\x82\xac" || e != api.OK {
		t.Errorf("20AC: %q", s)
	}
}

// P3.2: Text makes again what Runes takes apart.
func TestText(t *testing.T) {
	for _, s := range mixed() {
		l, _, e := utf.Runes(s)
		if e != api.OK {
			continue
		}
		if text, e := utf.Text(l); text != s || e != api.OK {
			t.Fatalf("%q: %q, %d", s, text, e)
		}
	}
	for _, l := range [][]rune{nil, {}} {
		if text, e := utf.Text(l); text != "" || e != api.OK {
			t.Errorf("no runes: %q, %d", text, e)
		}
	}
	for _, r := range noRunes {
		for _, l := range [][]rune{{r}, {r, 'a'}, {'a', 'b', r}, {'a', r, 0x20ac}} {
			if text, e := utf.Text(l); text != "" || e != api.ErrText {
				t.Errorf("%x: %q, %d", l, text, e)
			}
		}
	}
}

// P3.3: every piece of a text.
func TestCut(t *testing.T) {
	for _, s := range []string{"", "a", "aαb", "€", "a\x00\xef\xbf\xbdb", "αβγ", "x😀y€zé", "\U0010ffff\u0800\u0080"} {
		l, _ := split(s)
		for from := -2; from <= len(l)+2; from++ {
			for to := -2; to <= len(l)+2; to++ {
				got, e := utf.Cut(s, from, to)
				if from < 0 || from > to || to > len(l) {
					if got != "" || e != api.ErrArg {
						t.Errorf("%q from %d to %d: %q, %d", s, from, to, got, e)
					}
					continue
				}
				want := ""
				for _, r := range l[from:to] {
					want += form(r, sizeOf(r))
				}
				if got != want || e != api.OK {
					t.Errorf("%q from %d to %d: %q, %d; want %q", s, from, to, got, e, want)
				}
			}
		}
	}
	if s, e := utf.Cut("aαb", 1, 2); s != "α" || e != api.OK {
		t.Errorf("the example: %q, %d", s, e)
	}
}

// P3.3: what is no text is told ahead of numbers that may not be, wherever it is wrong.
func TestCutWrong(t *testing.T) {
	for _, s := range append(slices.Clone(noTexts), "abc\xff", "\xffabc") {
		for _, ends := range [][2]int{{0, 0}, {0, 1}, {-1, 0}, {1, 0}, {0, 99}, {math.MinInt, math.MaxInt}} {
			if got, e := utf.Cut(s, ends[0], ends[1]); got != "" || e != api.ErrText {
				t.Errorf("%q, %v: %q, %d", s, ends, got, e)
			}
		}
	}
	for _, ends := range [][2]int{{math.MinInt, 0}, {0, math.MaxInt}, {math.MaxInt, math.MaxInt}, {math.MinInt, math.MinInt}, {3, 2}} {
		if got, e := utf.Cut("abc", ends[0], ends[1]); got != "" || e != api.ErrArg {
			t.Errorf("abc, %v: %q, %d", ends, got, e)
		}
	}
}

// R4: what is handed in is not changed, and lists that are handed out are new memory.
func TestNewMemory(t *testing.T) {
	in := []rune{'a', 'b', 9, 9}
	if s, _ := utf.Text(in[:2]); s != "ab" || !slices.Equal(in, []rune{'a', 'b', 9, 9}) {
		t.Errorf("%q, %v", s, in)
	}
	a, _, _ := utf.Runes("abc")
	b, _, _ := utf.Runes("abc")
	a[0] = 'x'
	if b[0] != 'a' {
		t.Error("two answers share memory")
	}
}
