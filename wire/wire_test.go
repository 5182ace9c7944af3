package wire_test

import (
	"math/rand"
	"reflect"
	"slices"
	"strconv"
	"strings"
	"testing"

	"variorum/api"
	"variorum/refs"
	"variorum/wire"
)

// id is the one whose last byte is c.
func id(c byte) api.Id { return api.Id{31: c} }

// ids is a set of so many ids, none of them zero.
func ids(n int) []api.Id {
	var l []api.Id
	for i := range n {
		l = append(l, api.Id{0: 1, 1: byte(i >> 16), 2: byte(i >> 8), 3: byte(i)})
	}
	return l
}

func branch(name string, to byte) api.Update {
	return api.Update{Kind: api.RBranch, Name: name, New: id(to)}
}

func tag(name string, to byte) api.Update {
	return api.Update{Kind: api.RTag, Name: name, New: id(to)}
}

// many is so many names that rise.
func many(n int, one func(name string, to byte) api.Update) []api.Update {
	var l []api.Update
	for i := range n {
		l = append(l, one("n"+strconv.Itoa(1000+i), byte(i+1)))
	}
	return l
}

func push() api.Message {
	return api.Message{Kind: api.MPush, Session: 7, Name: "dev", Old: id(1), New: id(2), Force: true, Size: 300, Id: id(3)}
}

// some is a message of each kind.
func some() []api.Message {
	return []api.Message{
		{Kind: api.MHello, Session: 5},
		{Kind: api.MRefs, Session: 1, Refs: []api.Update{branch("dev", 1), branch("main", 2), tag("dev", 3)}},
		{Kind: api.MWant, Session: 2, Wants: []api.Id{id(1), id(9)}, Haves: []api.Id{id(4)}},
		{Kind: api.MHead, Session: 3, Size: 1062, Id: id(8)},
		{Kind: api.MAsk, Session: 4, At: 256},
		{Kind: api.MPiece, Session: 6, At: 512, Bytes: []byte("piece\x00\xff")},
		push(),
		{Kind: api.MDone, Session: 300, Code: api.ErrClean},
	}
}

// same: are two messages one, lists without anything too?
func same(a, b api.Message) bool {
	lists := slices.Equal(a.Refs, b.Refs) && slices.Equal(a.Wants, b.Wants) && slices.Equal(a.Haves, b.Haves) && slices.Equal(a.Bytes, b.Bytes)
	for _, m := range []*api.Message{&a, &b} {
		m.Refs, m.Wants, m.Haves, m.Bytes = nil, nil, nil, nil
	}
	return lists && reflect.DeepEqual(a, b)
}

// bytesOf is bytes of numbers below 128, texts (with their lengths), ids, and bytes as they are.
func bytesOf(l ...any) []byte {
	var b []byte
	for _, one := range l {
		switch x := one.(type) {
		case int:
			b = append(b, byte(x))
		case string:
			if len(x) > 127 {
				b = append(b, byte(len(x)%128+128), byte(len(x)/128))
			} else {
				b = append(b, byte(len(x)))
			}
			b = append(b, x...)
		case api.Id:
			b = append(b, x[:]...)
		case []byte:
			b = append(b, x...)
		}
	}
	return b
}

// changed is a message with a change.
func changed(m api.Message, change func(m *api.Message)) api.Message {
	change(&m)
	return m
}

// edges is messages that just may be.
func edges() []api.Message {
	long := strings.Repeat("n", 32)
	l := []api.Message{
		{Kind: api.MHello},
		{Kind: api.MHello, Session: 1<<31 - 1, Refs: []api.Update{}, Wants: []api.Id{}, Haves: []api.Id{}, Bytes: []byte{}},
		{Kind: api.MRefs},
		{Kind: api.MRefs, Refs: many(128, branch)},
		{Kind: api.MRefs, Refs: many(128, tag)},
		{Kind: api.MRefs, Refs: append(many(64, branch), many(64, tag)...)},
		{Kind: api.MRefs, Refs: []api.Update{branch("z", 1), tag("a", 1)}},
		{Kind: api.MRefs, Refs: []api.Update{branch("B", 1), branch("a", 1), branch(long, 1), branch(long[:31]+"z", 1)}},
		{Kind: api.MWant},
		{Kind: api.MWant, Wants: ids(1 << 16), Haves: ids(1 << 16)},
		{Kind: api.MWant, Haves: []api.Id{id(1)}},
		{Kind: api.MHead},
		{Kind: api.MHead, Size: 1 << 20, Id: api.Id{255, 31: 255}},
		{Kind: api.MAsk},
		{Kind: api.MAsk, At: 1 << 20},
		{Kind: api.MPiece, Bytes: []byte{0}},
		{Kind: api.MPiece, At: 1 << 20, Bytes: make([]byte, 256)},
		{Kind: api.MPush, Name: "a", New: id(1)},
		{Kind: api.MPush, Name: long, New: id(1), Old: id(1), Size: 1 << 20},
		{Kind: api.MDone},
	}
	for code := range api.ErrUse + 1 {
		l = append(l, api.Message{Kind: api.MDone, Code: code})
	}
	return l
}

// P25.1: which messages may be; they are written, and read again, but neither a part of their bytes nor more.
func TestRight(t *testing.T) {
	for _, m := range append(some(), edges()...) {
		b, e := wire.Encode(m)
		got, e2 := wire.Decode(b)
		if !wire.Right(m) || e != api.OK || e2 != api.OK || !same(got, m) {
			t.Fatalf("%.200v: %d, %d: %.200v", m, e, e2, got)
		}
		if len(b) < 10000 {
			for n := range b {
				none(t, b[:n])
			}
		}
		none(t, append(slices.Clone(b), 0))
		none(t, append([]byte{0}, b...))
		none(t, append(slices.Clone(b), b...))
	}
}

// none fails, unless bytes are none of a message.
func none(t *testing.T, b []byte) {
	t.Helper()
	if m, e := wire.Decode(b); e != api.ErrForm || !reflect.DeepEqual(m, api.Message{}) {
		t.Fatalf("%.200q: %d, %.200v", b, e, m)
	}
}

// wrong fails, unless a message may not be.
func wrong(t *testing.T, m api.Message) {
	t.Helper()
	if b, e := wire.Encode(m); wire.Right(m) || e != api.ErrArg || b != nil {
		t.Errorf("%.200v: %d, %.200q", m, e, b)
	}
}

// P25.1: messages that may not be, for one cause each.
func TestWrong(t *testing.T) {
	long := strings.Repeat("n", 33)
	unsorted := []api.Id{id(2), id(1)}
	for _, m := range []api.Message{
		{},
		{Kind: 9},
		{Kind: 255},
		{Kind: api.MRefs, Refs: many(129, branch)},
		{Kind: api.MRefs, Refs: append(many(65, branch), many(64, tag)...)},
		{Kind: api.MRefs, Refs: []api.Update{{Kind: 0, Name: "a", New: id(1)}}},
		{Kind: api.MRefs, Refs: []api.Update{{Kind: api.RHead, Name: "a", New: id(1)}}},
		{Kind: api.MRefs, Refs: []api.Update{{Kind: api.RBranch, New: id(1)}}},
		{Kind: api.MRefs, Refs: []api.Update{branch("a b", 1)}},
		{Kind: api.MRefs, Refs: []api.Update{branch("HEAD", 1)}},
		{Kind: api.MRefs, Refs: []api.Update{tag(long, 1)}},
		{Kind: api.MRefs, Refs: []api.Update{tag("a", 0)}},
		{Kind: api.MRefs, Refs: []api.Update{{Kind: api.RBranch, Name: "a", Old: id(1), New: id(1)}}},
		{Kind: api.MRefs, Refs: []api.Update{tag("a", 1), branch("a", 1)}},
		{Kind: api.MRefs, Refs: []api.Update{branch("b", 1), branch("a", 1)}},
		{Kind: api.MRefs, Refs: []api.Update{branch("a", 1), branch("a", 2)}},
		{Kind: api.MRefs, Refs: []api.Update{branch("a", 1), tag("b", 1), tag("a", 1)}},
		{Kind: api.MWant, Wants: unsorted},
		{Kind: api.MWant, Haves: unsorted},
		{Kind: api.MWant, Wants: []api.Id{id(1), id(1)}},
		{Kind: api.MWant, Wants: []api.Id{{}, id(1)}},
		{Kind: api.MWant, Haves: []api.Id{{}}},
		{Kind: api.MWant, Wants: ids(1<<16 + 1)},
		{Kind: api.MWant, Haves: ids(1<<16 + 1)},
		{Kind: api.MHead, Size: -1},
		{Kind: api.MHead, Size: 1<<20 + 1},
		{Kind: api.MAsk, At: -1},
		{Kind: api.MAsk, At: 1<<20 + 1},
		{Kind: api.MPiece},
		{Kind: api.MPiece, Bytes: make([]byte, 257)},
		{Kind: api.MPiece, At: -1, Bytes: []byte{1}},
		{Kind: api.MPiece, At: 1<<20 + 1, Bytes: []byte{1}},
		changed(push(), func(m *api.Message) { m.Name = "" }),
		changed(push(), func(m *api.Message) { m.Name = "-a" }),
		changed(push(), func(m *api.Message) { m.Name = long }),
		changed(push(), func(m *api.Message) { m.New = api.Id{} }),
		changed(push(), func(m *api.Message) { m.Size = -1 }),
		changed(push(), func(m *api.Message) { m.Size = 1<<20 + 1 }),
		{Kind: api.MDone, Code: -1},
		{Kind: api.MDone, Code: 23},
	} {
		wrong(t, m)
	}
	for _, m := range some() {
		for _, session := range []int{-1, 1 << 31, -1 << 63, 1<<63 - 1} {
			wrong(t, changed(m, func(m *api.Message) { m.Session = session }))
		}
	}
}

// P25.1: a part that a kind has not is zero.
func TestNoMore(t *testing.T) {
	sets := []func(m *api.Message){
		func(m *api.Message) { m.Refs = []api.Update{branch("a", 1)} },
		func(m *api.Message) { m.Wants = []api.Id{id(1)} },
		func(m *api.Message) { m.Haves = []api.Id{id(1)} },
		func(m *api.Message) { m.Size = 1 },
		func(m *api.Message) { m.At = 1 },
		func(m *api.Message) { m.Id = id(1) },
		func(m *api.Message) { m.Bytes = []byte{1} },
		func(m *api.Message) { m.Name = "a" },
		func(m *api.Message) { m.Old = id(1) },
		func(m *api.Message) { m.New = id(1) },
		func(m *api.Message) { m.Force = true },
		func(m *api.Message) { m.Code = 1 },
	}
	has := map[uint8][]int{api.MRefs: {0}, api.MWant: {1, 2}, api.MHead: {3, 5}, api.MAsk: {4}, api.MPiece: {4, 6}, api.MPush: {3, 5, 7, 8, 9, 10}, api.MDone: {11}}
	for _, m := range some() {
		for i, set := range sets {
			if one := changed(m, set); !slices.Contains(has[m.Kind], i) {
				wrong(t, one)
			} else if !wire.Right(one) {
				t.Errorf("%v", one)
			}
		}
	}
}

// P25.1: the bytes, part by part.
func TestEncode(t *testing.T) {
	long, most := strings.Repeat("\xfe", 256), []byte{128, 128, 64}
	for _, c := range []struct {
		m    api.Message
		want []byte
	}{
		{api.Message{Kind: api.MHello, Session: 5}, []byte{1, 5}},
		{api.Message{Kind: api.MDone, Session: 300, Code: api.ErrClean}, []byte{8, 172, 2, 13}},
		{api.Message{Kind: api.MHello, Session: 1<<31 - 1}, []byte{1, 255, 255, 255, 255, 7}},
		{some()[1], bytesOf(2, 1, 3, 1, "dev", id(1), 1, "main", id(2), 2, "dev", id(3))},
		{api.Message{Kind: api.MRefs}, []byte{2, 0, 0}},
		{some()[2], bytesOf(3, 2, 2, id(1), id(9), 1, id(4))},
		{api.Message{Kind: api.MWant}, []byte{3, 0, 0, 0}},
		{api.Message{Kind: api.MHead, Size: 1 << 20, Id: id(8)}, bytesOf(4, 0, most, id(8))},
		{api.Message{Kind: api.MAsk, At: 1 << 20}, bytesOf(5, 0, most)},
		{api.Message{Kind: api.MPiece, At: 9, Bytes: []byte(long)}, bytesOf(6, 0, 9, long)},
		{push(), bytesOf(7, 7, 172, 2, id(3), "dev", id(1), id(2), 1)},
		{api.Message{Kind: api.MPush, Name: "a", New: id(2)}, bytesOf(7, 0, 0, id(0), "a", id(0), id(2), 0)},
	} {
		got, e := wire.Encode(c.m)
		if e != api.OK || !slices.Equal(got, c.want) {
			t.Errorf("%v: %d, %q; want %q", c.m, e, got, c.want)
		}
	}
}

// P25.1: bytes that are nearly those of a message.
func TestDecodeErrors(t *testing.T) {
	long, great := strings.Repeat("n", 33), []byte{255, 255, 255, 255, 255, 255, 255, 255, 127} // 2^63 - 1
	over := []byte{129, 128, 64}                                                                // 2^20 + 1
	rows := func(n int, one func(name string, to byte) api.Update) []byte {
		b := []byte{byte(n%128 + 128), byte(n / 128)}
		for _, u := range many(n, one) {
			b = append(b, bytesOf(int(u.Kind), u.Name, u.New)...)
		}
		return b
	}
	set := func(n int) []byte {
		b := []byte{byte(n%128 + 128), byte(n>>7%128 + 128), byte(n >> 14)}
		for _, id := range ids(n) {
			b = append(b, id[:]...)
		}
		return b
	}
	for _, b := range [][]byte{
		nil,
		{0},
		{1},
		{0, 0},
		{9, 0},
		{255, 0},
		{1, 128, 0}, // 0 in more bytes than it needs
		{1, 128, 128, 128, 128, 8},
		bytesOf(1, great),
		{8, 172, 2},
		{8, 0, 23},
		{8, 0, 141, 0},
		bytesOf(8, 0, great),
		bytesOf(2, 0, 1, 3, "a", id(1)),
		bytesOf(2, 0, 1, 0, "a", id(1)),
		bytesOf(2, 0, 1, 1, "", id(1)),
		bytesOf(2, 0, 1, 1, "a b", id(1)),
		bytesOf(2, 0, 1, 1, long, id(1)),
		bytesOf(2, 0, 1, 1, "a", id(0)),
		bytesOf(2, 0, 2, 1, "a", id(1), 1, "a", id(1)),
		bytesOf(2, 0, 2, 1, "b", id(1), 1, "a", id(1)),
		bytesOf(2, 0, 2, 2, "a", id(1), 1, "b", id(1)),
		bytesOf(2, 0, great),
		bytesOf(2, 0, rows(129, branch)),
		bytesOf(3, 0, 1, id(0), 0),
		bytesOf(3, 0, 0, 1, id(0)),
		bytesOf(3, 0, 2, id(1), id(1), 0),
		bytesOf(3, 0, 0, 2, id(2), id(1)),
		bytesOf(3, 0, great, 0),
		bytesOf(3, 0, 0, great),
		bytesOf(3, 0, set(1<<16+1), 0),
		bytesOf(3, 0, 0, set(1<<16+1)),
		bytesOf(4, 0, over, id(1)),
		bytesOf(5, 0, over),
		bytesOf(6, 0, 0, ""),
		bytesOf(6, 0, 0, strings.Repeat("a", 257)),
		bytesOf(6, 0, over, "a"),
		bytesOf(7, 0, 0, id(3), "dev", id(1), id(2), 2),
		bytesOf(7, 0, 0, id(3), "dev", id(1), id(2), 255),
		bytesOf(7, 0, 0, id(3), "dev", id(1), id(0), 0),
		bytesOf(7, 0, 0, id(3), "", id(1), id(2), 0),
		bytesOf(7, 0, 0, id(3), long, id(1), id(2), 0),
		bytesOf(7, 0, over, id(3), "dev", id(1), id(2), 0),
	} {
		none(t, b)
	}
	for _, b := range [][]byte{bytesOf(2, 0, rows(128, tag)), bytesOf(3, 0, set(1<<16), set(1<<16))} { // these have no more than there may be
		if _, e := wire.Decode(b); e != api.OK {
			t.Errorf("%.20q: %d", b, e)
		}
	}
}

// P25.1: of any bytes either nothing is read, or what has just these bytes.
func TestDecodeAny(t *testing.T) {
	chance := rand.New(rand.NewSource(25))
	read := 0
	for _, m := range some() {
		b, _ := wire.Encode(m)
		for range 4000 {
			other := slices.Clone(b)
			for range 1 + chance.Intn(2) {
				i := chance.Intn(len(other))
				switch chance.Intn(3) {
				case 0:
					other[i] = byte(chance.Intn(256))
				case 1:
					other[i] += byte(1 - 2*chance.Intn(2))
				default:
					other = slices.Delete(other, i, min(len(other), i+1+chance.Intn(40)))
				}
				if len(other) == 0 {
					break
				}
			}
			m, e := wire.Decode(other)
			if e == api.ErrForm && reflect.DeepEqual(m, api.Message{}) {
				continue
			}
			read++
			if back, e2 := wire.Encode(m); e != api.OK || e2 != api.OK || !slices.Equal(back, other) {
				t.Fatalf("%q: %d, %v", other, e, m)
			}
		}
	}
	if read < 1000 {
		t.Errorf("%d were read", read)
	}
}

// P25.2: what is told of refs.
func TestOf(t *testing.T) {
	named := func(names ...string) []refs.Named {
		var l []refs.Named
		for i, name := range names {
			l = append(l, refs.Named{Name: name, Id: id(byte(i + 1))})
		}
		return l
	}
	log := []api.Entry{{Update: branch("gone", 1), Note: "n"}}
	var full refs.Refs
	full.Head = "main"
	for _, u := range many(64, branch) {
		full.Branches = append(full.Branches, refs.Named{Name: u.Name, Id: u.New})
	}
	full.Tags = slices.Clone(full.Branches)
	for _, c := range []struct {
		r    refs.Refs
		want []api.Update
	}{
		{refs.Begin(), nil},
		{refs.Refs{At: id(7), Log: log}, nil},
		{refs.Refs{Branches: named("dev", "main"), Tags: named("a", "dev"), Head: "x", Log: log}, []api.Update{branch("dev", 1), branch("main", 2), tag("a", 1), tag("dev", 2)}},
		{refs.Refs{Tags: named("v"), At: id(7)}, []api.Update{tag("v", 1)}},
		{full, append(many(64, branch), many(64, tag)...)},
		{refs.Refs{Branches: named("dev")}, nil},
		{refs.Refs{Branches: named("b", "a"), Head: "main"}, nil},
		{refs.Refs{Branches: []refs.Named{{Name: "a"}}, Head: "main"}, nil},
		{refs.Refs{Branches: named("dev"), Head: "main", Log: []api.Entry{{}}}, nil},
		{refs.Refs{}, nil},
	} {
		got := wire.Of(c.r)
		if !slices.Equal(got, c.want) {
			t.Errorf("%v: %v", c.r, got)
		}
		if !wire.Right(api.Message{Kind: api.MRefs, Refs: got}) {
			t.Errorf("%v: no MRefs", got)
		}
	}
}

// roomy is a list with spare room behind it that is full of one thing.
func roomy[T any](l []T, spare T) []T {
	more := slices.Clone(l)
	for range 9 {
		more = append(more, spare)
	}
	return more[:len(l)]
}

// R4: what is handed in is neither changed nor kept, what is handed out is new.
func TestMemory(t *testing.T) {
	for i, m := range some() {
		m.Refs, m.Bytes = roomy(m.Refs, branch("spare", 9)), roomy(m.Bytes, 9)
		m.Wants, m.Haves = roomy(m.Wants, id(99)), roomy(m.Haves, id(99))
		if !wire.Right(m) {
			t.Fatalf("%v", m)
		}
		b, _ := wire.Encode(m)
		if !same(m, some()[i]) || m.Refs[:9][len(m.Refs)].Name != "spare" || m.Wants[:9][len(m.Wants)] != id(99) || m.Haves[:9][len(m.Haves)] != id(99) || m.Bytes[:9][len(m.Bytes)] != 9 {
			t.Errorf("what was handed in is %v", m)
		}
		kept := slices.Clone(b)
		got, _ := wire.Decode(b)
		if !slices.Equal(b, kept) {
			t.Errorf("%v: the bytes have changed", m)
		}
		clear(b[:cap(b)])
		if !same(got, some()[i]) {
			t.Errorf("%v: what was decoded has changed", m)
		}
		clear(got.Bytes[:cap(got.Bytes)])
		clear(got.Wants[:cap(got.Wants)])
		if again, _ := wire.Decode(kept); !same(again, some()[i]) || !slices.Equal(got.Haves, some()[i].Haves) {
			t.Errorf("%v: two answers, or two lists of one, share memory", m)
		}
	}
	r := refs.Refs{Branches: roomy([]refs.Named{{Name: "a", Id: id(1)}}, refs.Named{Name: "spare"}), Head: "a"}
	l := wire.Of(r)
	clear(l[:cap(l)])
	if r.Branches[0].Name != "a" || r.Branches[:2][1].Name != "spare" {
		t.Error("refs have changed")
	}
}
