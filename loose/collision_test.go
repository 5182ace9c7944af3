package loose

import (
	"testing"

	"variorum/api"
	"variorum/disk"
	"variorum/sha"
)

// weak is a sum that all bytes have in common which begin with the same one.
func weak(parts ...[]byte) api.Id { return sha.Sum(parts[0][:1]) }

// P9.1, R7: two byte strings with one sum are both told, and nothing is changed.
func TestCollision(t *testing.T) {
	d := disk.New(100)
	id, other, e := put(d, []byte("apple"), weak)
	if id != weak([]byte("a")) || len(other) != 0 || e != api.OK {
		t.Fatalf("%x, %q, %d", id, other, e)
	}
	d.Arm(1)
	for range 2 {
		for _, s := range []string{"a", "apple ", "avocado", "appla"} {
			again, other, e := put(d, []byte(s), weak)
			if again != id || string(other) != "apple" || e != api.ErrCollision {
				t.Errorf("%q: %x, %q, %d", s, again, other, e)
			}
			clear(other)
		}
	}
	if d.Down() {
		t.Error("an act was done")
	}
	d.Arm(0)
	if again, other, e := put(d, []byte("apple"), weak); again != id || len(other) != 0 || e != api.OK {
		t.Errorf("the same: %x, %q, %d", again, other, e)
	}
	if _, _, e := put(d, []byte("banana"), weak); e != api.OK || len(d.List()) != 2 {
		t.Errorf("of another sum: %d", e)
	}
	if b, e := d.Read(file(id)); string(b) != "apple" || e != api.OK {
		t.Errorf("%q, %d", b, e)
	}
}
