// Package sha is layer 1, the sum of bytes: SHA-256 of FIPS 180-4. See shared/doc/01-sha.md.
package sha

import (
	"math/bits"

	"variorum/api"
)

const (
	blockSize  = 64 // bytes that go through the rounds at once
	lengthSize = 8  // bytes that tell the number of bits at the end
	rounds     = 64
)

// firstWords: the first 32 bits of the fractions of the square roots of the first eight primes.
var firstWords = [8]uint32{
	0x6a09e667, 0xbb67ae85, 0x3c6ef372, 0xa54ff53a,
	0x510e527f, 0x9b05688c, 0x1f83d9ab, 0x5be0cd19,
}

// roundWords: the same of the cube roots of the first 64 primes.
var roundWords = [rounds]uint32{
	0x428a2f98, 0x71374491, 0xb5c0fbcf, 0xe9b5dba5, 0x3956c25b, 0x59f111f1, 0x923f82a4, 0xab1c5ed5,
	0xd807aa98, 0x12835b01, 0x243185be, 0x550c7dc3, 0x72be5d74, 0x80deb1fe, 0x9bdc06a7, 0xc19bf174,
	0xe49b69c1, 0xefbe4786, 0x0fc19dc6, 0x240ca1cc, 0x2de92c6f, 0x4a7484aa, 0x5cb0a9dc, 0x76f988da,
	0x983e5152, 0xa831c66d, 0xb00327c8, 0xbf597fc7, 0xc6e00bf3, 0xd5a79147, 0x06ca6351, 0x14292967,
	0x27b70a85, 0x2e1b2138, 0x4d2c6dfc, 0x53380d13, 0x650a7354, 0x766a0abb, 0x81c2c92e, 0x92722c85,
	0xa2bfe8a1, 0xa81a664b, 0xc24b8b70, 0xc76c51a3, 0xd192e819, 0xd6990624, 0xf40e3585, 0x106aa070,
	0x19a4c116, 0x1e376c08, 0x2748774c, 0x34b0bcb5, 0x391c0cb3, 0x4ed8aa4a, 0x5b9cca4f, 0x682e6ff3,
	0x748f82ee, 0x78a5636f, 0x84c87814, 0x8cc70208, 0x90befffa, 0xa4506ceb, 0xbef9a3f7, 0xc67178f2,
}

// Hash is a sum that is being made.
type Hash struct {
	words  [8]uint32       // the state behind the last whole block
	rest   [blockSize]byte // begins with what was written behind that block
	length int
}

// Sum is the sum of parts.
func Sum(parts ...[]byte) api.Id {
	h := New()
	for _, p := range parts {
		h.Write(p)
	}
	return h.Sum()
}

// New begins a sum.
func New() *Hash { return &Hash{words: firstWords} }

// Write adds bytes.
func (h *Hash) Write(b []byte) {
	if h == nil {
		return
	}
	for len(b) > 0 {
		held := h.length % blockSize
		n := copy(h.rest[held:], b)
		h.length += n
		b = b[n:]
		if held+n == blockSize {
			h.words = turn(h.words, h.rest)
		}
	}
}

// Sum tells the sum so far.
func (h *Hash) Sum() api.Id {
	if h == nil {
		return Sum()
	}
	ended := *h // a copy, since more may be written behind what h has
	ended.Write(ending(h.length))
	var id api.Id
	for i, w := range ended.words {
		id[4*i], id[4*i+1], id[4*i+2], id[4*i+3] = byte(w>>24), byte(w>>16), byte(w>>8), byte(w)
	}
	return id
}

// Len tells how many bytes were written.
func (h *Hash) Len() int {
	if h == nil {
		return 0
	}
	return h.length
}

// ending is what follows so many bytes, that whole blocks come out.
func ending(length int) []byte {
	zeros := blockSize - lengthSize - 1 - length%blockSize
	if zeros < 0 { // no room in this block: it takes one more
		zeros += blockSize
	}
	b := make([]byte, 1+zeros, 1+zeros+lengthSize)
	b[0] = 0x80
	n := uint64(length) * 8
	for i := range lengthSize {
		b = append(b, byte(n>>(8*(lengthSize-1-i))))
	}
	return b
}

// turn is the state behind a block.
func turn(words [8]uint32, block [blockSize]byte) [8]uint32 {
	w := spread(block)
	a, b, c, d, e, f, g, h := words[0], words[1], words[2], words[3], words[4], words[5], words[6], words[7]
	for t := range rounds {
		sum1 := right(e, 6) ^ right(e, 11) ^ right(e, 25)
		choice := e&f ^ ^e&g
		first := h + sum1 + choice + roundWords[t] + w[t]
		sum0 := right(a, 2) ^ right(a, 13) ^ right(a, 22)
		majority := a&b ^ a&c ^ b&c
		a, b, c, d, e, f, g, h = first+sum0+majority, a, b, c, d+first, e, f, g
	}
	for i, x := range [8]uint32{a, b, c, d, e, f, g, h} {
		words[i] += x
	}
	return words
}

// spread is the word of each round, made of a block's 16.
func spread(block [blockSize]byte) [rounds]uint32 {
	var w [rounds]uint32
	for t := range 16 {
		b := block[4*t:]
		w[t] = uint32(b[0])<<24 | uint32(b[1])<<16 | uint32(b[2])<<8 | uint32(b[3])
	}
	for t := 16; t < rounds; t++ {
		near, far := w[t-2], w[t-15]
		s1 := right(near, 17) ^ right(near, 19) ^ near>>10
		s0 := right(far, 7) ^ right(far, 18) ^ far>>3
		w[t] = s1 + w[t-7] + s0 + w[t-16]
	}
	return w
}

// right is x turned to the right.
func right(x uint32, n int) uint32 { return bits.RotateLeft32(x, -n) }
