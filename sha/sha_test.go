package sha_test

import (
	"bytes"
	"crypto/sha256"
	"encoding/hex"
	"math/rand"
	"slices"
	"strings"
	"testing"

	"variorum/api"
	"variorum/sha"
)

// want is the sum as the library of the language has it.
func want(b []byte) api.Id { return api.Id(sha256.Sum256(b)) }

// row is n bytes that are not all alike.
func row(n int) []byte {
	b := make([]byte, n)
	for i := range b {
		b[i] = byte(i*i + 7*i + n)
	}
	return b
}

// P1.1: sums that are known.
func TestSumKnown(t *testing.T) {
	for s, digits := range map[string]string{
		"":    "e3b0c44298fc1c149afbf4c8996fb92427ae41e4649b934ca495991b7852b855",
		"abc": "ba7816bf8f01cfea414140de5dae2223b00361a396177a9cb410ff61f20015ad",
		"abcdbcdecdefdefgefghfghighijhijkijkljklmklmnlmnomnopnopq": "248d6a61d20638b8e5c026930c3e6039a33ce45964ff2167f6ecedd419db06c1",
		strings.Repeat("a", 1000000):                               "cdc76e5c9914fb9281a1c7e284d73e67f1809a48a497200e046d39ccc7112cd0",
	} {
		id := sha.Sum([]byte(s))
		if got := hex.EncodeToString(id[:]); got != digits {
			t.Errorf("sum of %.60q, %d bytes: %s", s, len(s), got)
		}
	}
}

// P1.1: every length around the blocks' ends, where the ending takes one block more or not.
func TestSumLengths(t *testing.T) {
	for n := range 400 {
		if b := row(n); sha.Sum(b) != want(b) {
			t.Errorf("sum of %d bytes", n)
		}
	}
}

// P1.1: the parts count one behind the other, however they are cut.
func TestSumParts(t *testing.T) {
	b := row(150)
	all := want(b)
	for i := range len(b) + 1 {
		if sha.Sum(b[:i], b[i:]) != all {
			t.Errorf("cut at %d", i)
		}
		if sha.Sum(nil, b[:i/2], []byte{}, b[i/2:i], b[i:], nil) != all {
			t.Errorf("cut at %d and %d, with empty parts", i/2, i)
		}
	}
	if sha.Sum() != want(nil) || sha.Sum(nil) != want(nil) || sha.Sum(nil, []byte{}, nil) != want(nil) {
		t.Error("no parts, and empty ones, are no bytes")
	}
	if sha.Sum([]byte("a"), []byte("b")) == sha.Sum([]byte("b"), []byte("a")) {
		t.Error("the parts' order counts")
	}
}

// P1.2: whatever is written in whatever pieces, Sum and Len tell of all so far.
func TestHashPieces(t *testing.T) {
	chance := rand.New(rand.NewSource(1))
	for range 200 {
		h := sha.New()
		var all []byte
		for range chance.Intn(12) {
			b := row(chance.Intn(200))
			h.Write(b)
			all = append(all, b...)
			if h.Sum() != want(all) || h.Len() != len(all) {
				t.Fatalf("behind %d bytes: Len %d", len(all), h.Len())
			}
		}
	}
}

// P1.2: a sum that was asked for changes nothing: it is told again, and more may be written.
func TestHashGoesOn(t *testing.T) {
	for n := range 200 {
		h := sha.New()
		b := row(n)
		h.Write(b)
		first := h.Sum()
		if first != h.Sum() || h.Len() != n {
			t.Errorf("%d bytes: asked twice", n)
		}
		h.Write([]byte("more"))
		if h.Sum() != want(append(slices.Clone(b), "more"...)) || h.Len() != n+4 {
			t.Errorf("%d bytes: written on", n)
		}
	}
}

// P1.2: nothing is written, or a write of nothing.
func TestHashEmpty(t *testing.T) {
	h := sha.New()
	if h.Sum() != want(nil) || h.Len() != 0 {
		t.Error("a new one")
	}
	h.Write(nil)
	h.Write([]byte{})
	if h.Sum() != want(nil) || h.Len() != 0 {
		t.Error("nothing written")
	}
}

// P1.2: a nil Hash.
func TestHashNil(t *testing.T) {
	var h *sha.Hash
	h.Write([]byte("abc"))
	if h.Sum() != want(nil) || h.Len() != 0 {
		t.Error("a nil Hash has nothing")
	}
}

// R4, R5: what is handed in is neither changed nor kept, and two Hashes have nothing in common.
func TestHashKeepsNothing(t *testing.T) {
	b := row(100)
	before := slices.Clone(b)
	h, other := sha.New(), sha.New()
	h.Write(b)
	other.Write(b[:3])
	sha.Sum(b, b[:70])
	if !bytes.Equal(b, before) {
		t.Error("the bytes were changed")
	}
	clear(b)
	if h.Sum() != want(before) || other.Sum() != want(before[:3]) {
		t.Error("the bytes were kept, or shared")
	}
}

// P1.1: the number of bits goes beyond 32 bits from 2^29 bytes on.
func TestSumGreat(t *testing.T) {
	if testing.Short() {
		t.Skip("some seconds")
	}
	piece := row(1 << 20)
	h, library := sha.New(), sha256.New()
	for range 1<<9 + 1 {
		h.Write(piece)
		library.Write(piece)
	}
	if h.Sum() != api.Id(library.Sum(nil)) || h.Len() != 1<<29+1<<20 {
		t.Error("2^29 bytes and more")
	}
}
