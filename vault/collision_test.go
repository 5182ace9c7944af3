package vault

import (
	"bytes"
	"slices"
	"testing"

	"variorum/api"
	"variorum/disk"
	"variorum/loose"
	"variorum/pack"
	"variorum/sha"
)

// good fails, if one of the errors is one.
func good(t *testing.T, errors ...api.Errno) {
	t.Helper()
	for i, e := range errors {
		if e != api.OK {
			t.Fatalf("call %d: error %d", i, e)
		}
	}
}

// filled is a vault on a disk with some objects in files of their own, and their ids.
func filled(t *testing.T, quota int, texts ...string) (*disk.Disk, *Vault, []api.Id) {
	t.Helper()
	d := disk.New(quota)
	v, e := Open(d)
	good(t, e)
	var ids []api.Id
	for _, s := range texts {
		id, _, e := v.Put([]byte(s))
		good(t, e)
		ids = append(ids, id)
	}
	return d, v, ids
}

// P22.2, R7: bytes with the id of others in a pack: both are told, and nothing is changed.
func TestPutCollision(t *testing.T) {
	d, v, ids := filled(t, 10000, "apple", "pear")
	_, e := v.Keep(ids, nil)
	good(t, e)
	for _, s := range []string{"", "apple ", "appl", "pear"} {
		d.Arm(1)
		id, other, e := v.put([]byte(s), ids[0])
		if id != ids[0] || string(other) != "apple" || e != api.ErrCollision || d.Down() {
			t.Errorf("%q: %x, %q, %d", s, id, other, e)
		}
		clear(other)
	}
	if id, other, e := v.put([]byte("apple"), ids[0]); id != ids[0] || len(other) != 0 || e != api.OK || d.Down() {
		t.Errorf("the same: %x, %q, %d", id, other, e)
	}
	if b, e := v.Get(ids[0]); string(b) != "apple" || e != api.OK {
		t.Errorf("%q, %d", b, e)
	}
}

// weak is a sum that all packs of as many objects have in common.
func weak(parts ...[]byte) api.Id { return sha.Sum(bytes.Join(parts, nil)[:2]) }

// P22.4, R7: a pack whose file has other bytes of the same sum: both are told, the pack's first, and nothing is changed.
func TestKeepCollision(t *testing.T) {
	d, v, ids := filled(t, 10000, "apple", "pear", "plum")
	_, e := v.keep(ids[:1], nil, weak)
	good(t, e)
	apple, e := d.Read(file(weak([]byte("P\x01"))))
	good(t, e)
	for _, s := range []string{"pear", "plum"} {
		_, _, e := v.Put([]byte(s))
		good(t, e)
	}
	before := d.List()
	for range 2 {
		d.Arm(1)
		clash, e := v.keep(ids[1:2], nil, weak)
		pear, _ := v.rows(ids[1:2], nil)
		if e != api.ErrCollision || len(clash) != 2 || !bytes.Equal(clash[0], pear[0]) || !bytes.Equal(clash[1], apple) || d.Down() {
			t.Fatalf("%q, %d", clash, e)
		}
		if !slices.Equal(d.List(), before) || v.Packs() != 1 || len(v.Ids()) != 3 {
			t.Errorf("%q", d.List())
		}
		clear(clash[0])
		clear(clash[1])
	}
	d.Arm(0)
	if b, _ := d.Read(file(weak([]byte("P\x01")))); !bytes.Equal(b, apple) {
		t.Errorf("%q", b)
	}
	for range 2 { // its own bytes are no clash
		if clash, e := v.keep(ids[:1], nil, weak); e != api.OK || len(clash) != 0 {
			t.Errorf("%q, %d", clash, e)
		}
	}
}

// P22.4: two packs of one Keep with one sum: what was appended is taken away again.
func TestKeepCollisionWithin(t *testing.T) {
	great := []string{string(make([]byte, fullBytes)), "a" + string(make([]byte, fullBytes)), "b" + string(make([]byte, fullBytes))}
	one := func(parts ...[]byte) api.Id { return api.Id{1} }
	d, v, ids := filled(t, 1<<22, great...)
	good(t, d.Append(file(api.Id{2}), []byte("wrong")))
	before := d.List()
	clash, e := v.keep(ids, nil, one)
	if e != api.ErrCollision || len(clash) != 2 || bytes.Equal(clash[0], clash[1]) {
		t.Fatalf("%d, %d", len(clash), e)
	}
	if !slices.Equal(d.List(), before) || len(loose.List(d)) != 3 || v.Packs() != 0 {
		t.Errorf("%q", d.List())
	}
	d.Arm(3) // append, sync; the act to take it away again is not done
	if clash, e := v.keep(ids, nil, one); e != api.ErrDown || len(clash) != 0 {
		t.Errorf("%d, %d", len(clash), e)
	}
}

// P22.2: of several packs with an id the one whose file's name is the first tells it.
func TestFirst(t *testing.T) {
	d := disk.New(10000)
	var names []string
	for _, s := range []string{"a", "b", "c", "d", "e", "f"} {
		b, e := pack.Build([]pack.Part{{Bytes: []byte("abc"), Base: -1}, {Bytes: []byte(s), Base: -1}})
		names = append(names, file(sha.Sum(b)))
		good(t, e, d.Append(names[len(names)-1], b))
	}
	v, e := Open(d)
	good(t, e)
	if p := v.first(sha.Sum([]byte("abc"))); p == nil || p != v.packs[slices.Min(names)] {
		t.Error("another one")
	}
	if p := v.first(sha.Sum([]byte("c"))); p == nil || p != v.packs[names[2]] {
		t.Error("the only one")
	}
	if v.first(sha.Sum([]byte("none"))) != nil {
		t.Error("none")
	}
}
