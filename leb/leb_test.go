package leb_test

import (
	"bytes"
	"encoding/binary"
	"encoding/hex"
	"math"
	"math/rand"
	"strings"
	"testing"

	"variorum/api"
	"variorum/leb"
)

// roomy is s with spare room behind it that is full of 9s.
func roomy(s string) []byte {
	b := bytes.Repeat([]byte{9}, len(s)+64)
	copy(b, s)
	return b[:len(s)]
}

// untouched: is b still s, and are there 9s behind it?
func untouched(b []byte, s string) bool {
	return string(b[:cap(b)]) == s+strings.Repeat("\t", cap(b)-len(s))
}

// numbers are those at the edges of each count of pieces, and some between.
func numbers() []int {
	l := []int{0, 1, 127, 128, 300, math.MaxInt, math.MaxInt - 1}
	chance := rand.New(rand.NewSource(2))
	for bit := range 63 {
		l = append(l, 1<<bit-1, 1<<bit, 1<<bit+1, chance.Intn(1<<bit))
	}
	return l
}

// someId has all digits in it, and no two bytes alike.
func someId() (id api.Id) {
	for i := range id {
		id[i] = byte(i*8+i/2) ^ 0xe5
	}
	return id
}

// P2.1: numbers in as few bytes as can be, there and back, wherever they stand.
func TestNumbers(t *testing.T) {
	for _, n := range numbers() {
		want := binary.AppendUvarint([]byte("ab"), uint64(n))
		b, e := leb.Put([]byte("ab"), n)
		if e != api.OK || !bytes.Equal(b, want) {
			t.Errorf("Put %d: %v, %d", n, b, e)
		}
		for _, behind := range []string{"", "\x00", "\x80", "\xff\xff", "zz"} {
			got, next, e := leb.Get(append(want[:len(want):len(want)], behind...), 2)
			if got != n || next != len(want) || e != api.OK {
				t.Errorf("Get %d with %q behind it: %d, %d, %d", n, behind, got, next, e)
			}
		}
	}
	if b, e := leb.Put(nil, 300); e != api.OK || string(b) != "\xac\x02" {
		t.Errorf("300: %v", b)
	}
	if b, e := leb.Put(nil, 0); e != api.OK || string(b) != "\x00" {
		t.Errorf("0: %v", b)
	}
	if b, e := leb.Put(nil, math.MaxInt); e != api.OK || string(b) != "\xff\xff\xff\xff\xff\xff\xff\xff\x7f" {
		t.Errorf("2^63 - 1: %v", b)
	}
}

// P2.1: numbers below 0.
func TestPutBelow(t *testing.T) {
	for _, n := range []int{-1, -128, -300, math.MinInt} {
		if b, e := leb.Put([]byte("ab"), n); e != api.ErrArg || len(b) != 0 {
			t.Errorf("%d: %v, %d", n, b, e)
		}
	}
}

// P2.1: places that are none.
func TestGetPlaces(t *testing.T) {
	for _, b := range [][]byte{nil, {}, {1}, {1, 2, 3}} {
		for _, at := range []int{-1, -9, len(b) + 1, len(b) + 9, math.MinInt, math.MaxInt} {
			if n, next, e := leb.Get(b, at); n != 0 || next != 0 || e != api.ErrArg {
				t.Errorf("%v at %d: %d, %d, %d", b, at, n, next, e)
			}
		}
		if n, next, e := leb.Get(b, len(b)); n != 0 || next != 0 || e != api.ErrForm {
			t.Errorf("%v at its end: %d, %d, %d", b, n, next, e)
		}
		for at := range b {
			if n, next, e := leb.Get(b, at); n != int(b[at]) || next != at+1 || e != api.OK {
				t.Errorf("%v at %d: %d, %d, %d", b, at, n, next, e)
			}
		}
	}
}

// P2.1: bytes that are no number: too few, more than need be, too great.
func TestGetForm(t *testing.T) {
	for _, s := range []string{
		"", "\x80", "\xff", "\xff\xff", "\x80\x80\x80", "\xff\xff\xff\xff\xff\xff\xff\xff",
		"\x80\x00", "\xff\x00", "\x80\x80\x00", "\x81\x80\x00", "\xff\xff\xff\xff\xff\xff\xff\xff\x00",
		"\x80\x80\x80\x80\x80\x80\x80\x80\x80\x01", "\xff\xff\xff\xff\xff\xff\xff\xff\xff\x01",
		"\xff\xff\xff\xff\xff\xff\xff\xff\xff\x00", "\xff\xff\xff\xff\xff\xff\xff\xff\xff",
		"\xff\xff\xff\xff\xff\xff\xff\xff\x80", "\x80\x80\x80\x80\x80\x80\x80\x80\x80\x80\x80\x80\x01",
		strings.Repeat("\x80", 40),
	} {
		if n, next, e := leb.Get([]byte("ab"+s), 2); n != 0 || next != 0 || e != api.ErrForm {
			t.Errorf("%q: %d, %d, %d", s, n, next, e)
		}
	}
}

// P2.1: each row of up to three bytes is a number just where the one that Put makes is the same.
func TestGetAll(t *testing.T) {
	for v := range 1 << 20 {
		b := []byte{byte(v), byte(v>>8) & 0x8f, byte(v>>12) & 0x83}
		n, next, e := leb.Get(b, 0)
		if e != api.OK {
			want, size := binary.Uvarint(b)
			if size > 0 && bytes.Equal(binary.AppendUvarint(nil, want), b[:size]) || n != 0 || next != 0 || e != api.ErrForm {
				t.Fatalf("%v: %d, %d, %d", b, n, next, e)
			}
		} else if again, _ := leb.Put(nil, n); !bytes.Equal(again, b[:next]) {
			t.Fatalf("%v: %d, %d", b, n, next)
		}
	}
}

// P2.2: texts of any bytes, there and back.
func TestTexts(t *testing.T) {
	for _, s := range []string{"", "a", "abc", "é€", "\x00", "\xff\xfe", strings.Repeat("x", 127), strings.Repeat("y", 128), strings.Repeat("z", 70000)} {
		want := string(binary.AppendUvarint([]byte("ab"), uint64(len(s)))) + s
		b := leb.PutText([]byte("ab"), s)
		if string(b) != want {
			t.Errorf("PutText of %d bytes", len(s))
		}
		for _, most := range []int{len(s), len(s) + 1, math.MaxInt} {
			got, next, e := leb.GetText([]byte(want+"zz"), 2, most)
			if got != s || next != len(want) || e != api.OK {
				t.Errorf("GetText of %d bytes, most %d: %d, %d", len(s), most, next, e)
			}
		}
	}
	if s, next, e := leb.GetText([]byte{3, 'a', 'b', 'c', 'd'}, 0, 3); s != "abc" || next != 4 || e != api.OK {
		t.Errorf("the example: %q, %d, %d", s, next, e)
	}
}

// P2.2: what is no text, and which of several errors counts.
func TestTextErrors(t *testing.T) {
	for _, x := range []struct {
		b        string
		at, most int
		want     api.Errno
	}{
		{"\x03abc", -1, 3, api.ErrArg},
		{"\x03abc", 5, 3, api.ErrArg},
		{"\x03abc", math.MinInt, -1, api.ErrArg},
		{"\x03abc", math.MaxInt, -1, api.ErrArg},
		{"\x03abc", 4, 3, api.ErrForm},
		{"", 0, 3, api.ErrForm},
		{"", 0, -1, api.ErrForm},
		{"\x83\x00abc", 0, 9, api.ErrForm},
		{"\x83", 0, -1, api.ErrForm},
		{"\x03abc", 0, 2, api.ErrLong},
		{"\x03abc", 0, 0, api.ErrLong},
		{"\x00", 0, -1, api.ErrLong},
		{"\x00", 0, math.MinInt, api.ErrLong},
		{"\x03ab", 0, 2, api.ErrLong},
		{"\x03ab", 0, 3, api.ErrForm},
		{"\x03", 0, 3, api.ErrForm},
		{"zz\x02a", 2, 9, api.ErrForm},
		{"\xff\xff\xff\xff\xff\xff\xff\xff\x7fab", 0, math.MaxInt, api.ErrForm},
		{"\xff\xff\xff\xff\xff\xff\xff\xff\x7fab", 0, math.MaxInt - 1, api.ErrLong},
	} {
		if s, next, e := leb.GetText([]byte(x.b), x.at, x.most); s != "" || next != 0 || e != x.want {
			t.Errorf("%q at %d, most %d: %q, %d, %d", x.b, x.at, x.most, s, next, e)
		}
	}
	if s, next, e := leb.GetText([]byte{0}, 0, 0); s != "" || next != 1 || e != api.OK {
		t.Errorf("the empty text: %q, %d, %d", s, next, e)
	}
}

// P2.2: ids, there and back, and where there are too few bytes.
func TestIds(t *testing.T) {
	id := someId()
	b := leb.PutId([]byte("ab"), id)
	if string(b) != "ab"+string(id[:]) {
		t.Errorf("PutId: %v", b)
	}
	if got := leb.PutId(nil, id); string(got) != string(id[:]) {
		t.Errorf("PutId behind nothing: %v", got)
	}
	for _, behind := range []string{"", "z"} {
		if got, next, e := leb.GetId([]byte(string(b)+behind), 2); got != id || next != 34 || e != api.OK {
			t.Errorf("GetId: %v, %d, %d", got, next, e)
		}
	}
	for at, want := range map[int]api.Errno{
		-1: api.ErrArg, 35: api.ErrArg, math.MinInt: api.ErrArg, math.MaxInt: api.ErrArg,
		3: api.ErrForm, 33: api.ErrForm, 34: api.ErrForm,
	} {
		if got, next, e := leb.GetId(b, at); got != (api.Id{}) || next != 0 || e != want {
			t.Errorf("GetId at %d: %v, %d, %d", at, got, next, e)
		}
	}
	if _, _, e := leb.GetId(nil, 0); e != api.ErrForm {
		t.Errorf("GetId of nothing: %d", e)
	}
}

// P2.1, P2.2, R4: what is put is new memory, and the spare room of what is handed in stays as it is.
func TestPutNew(t *testing.T) {
	id := someId()
	for name, put := range map[string]func([]byte) []byte{
		"Put":     func(b []byte) []byte { l, _ := leb.Put(b, 300); return l },
		"PutText": func(b []byte) []byte { return leb.PutText(b, "text") },
		"empty":   func(b []byte) []byte { return leb.PutText(b, "") },
		"PutId":   func(b []byte) []byte { return leb.PutId(b, id) },
	} {
		b := roomy("ab")
		l := put(b)
		again := put(b)
		whole := string(l)
		clear(again[:cap(again)])
		if !untouched(b, "ab") || string(l) != whole {
			t.Errorf("%s writes into what it was handed", name)
		}
		clear(l[:cap(l)])
		if !untouched(b, "ab") {
			t.Errorf("%s shares what it was handed", name)
		}
	}
}

// R4: what reads changes nothing, and what it tells stays, whatever becomes of the bytes.
func TestGetNew(t *testing.T) {
	id := someId()
	all := "\x03abc" + string(id[:])
	b := roomy(all)
	leb.Get(b, 0)
	s, _, _ := leb.GetText(b, 0, 3)
	got, _, _ := leb.GetId(b, 4)
	if !untouched(b, all) {
		t.Error("reading changed the bytes")
	}
	clear(b)
	if s != "abc" || got != id {
		t.Error("what was read is kept in the bytes")
	}
}

// P2.3: digits of ids, there and back.
func TestHex(t *testing.T) {
	chance := rand.New(rand.NewSource(3))
	ids := []api.Id{{}, someId()}
	for i := range 256 {
		var id api.Id
		chance.Read(id[:])
		id[i%32] = byte(i)
		ids = append(ids, id)
	}
	for _, id := range ids {
		s := leb.Hex(id)
		if s != hex.EncodeToString(id[:]) {
			t.Errorf("%v: %s", id, s)
		}
		if got, ok := leb.Unhex(s); !ok || got != id {
			t.Errorf("%s: %v, %v", s, got, ok)
		}
	}
}

// P2.3: texts that are no id's digits.
func TestUnhexNone(t *testing.T) {
	right := leb.Hex(someId())
	wrong := []string{"", "0", right[:1], right[:62], right[:63], right + "0", right + "00", right + right, " " + right, right + "\n", strings.ToUpper(right)}
	for place := range right {
		for _, c := range []string{"g", "A", "F", "G", "/", ":", "`", "@", " ", "\x00", "\xff", "é"} {
			wrong = append(wrong, right[:place]+c+right[place+1:])
		}
	}
	for _, s := range wrong {
		if id, ok := leb.Unhex(s); ok || id != (api.Id{}) {
			t.Errorf("%q: %v, %v", s, id, ok)
		}
	}
}

// P2.3: an id's digits begin with 1 to 64 of them, with none else.
func TestStarts(t *testing.T) {
	id := someId()
	right := leb.Hex(id)
	for n := 1; n <= 64; n++ {
		if !leb.Starts(id, right[:n]) {
			t.Errorf("%d digits", n)
		}
		other := "0"
		if right[n-1] == '0' {
			other = "1"
		}
		if wrong := right[:n-1] + other; leb.Starts(id, wrong) {
			t.Errorf("another digit at the end: %q", wrong)
		}
	}
	for _, s := range []string{"", right + "0", right + right, right[1:3], strings.ToUpper(right), "x", right[:5] + "g", " ", "\x00"} {
		if leb.Starts(id, s) {
			t.Errorf("begins with %q", s)
		}
	}
	if !leb.Starts(api.Id{}, "000") || leb.Starts(api.Id{}, "") || leb.Starts(api.Id{}, strings.Repeat("0", 65)) {
		t.Error("the zero id")
	}
}
