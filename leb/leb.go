// Package leb is layer 2: numbers, texts and ids as bytes and digits. See shared/doc/02-leb.md.
package leb

import (
	"slices"
	"strings"

	"variorum/api"
)

const (
	pieceBits = 7
	more      = 1 << pieceBits // what each byte of a number has, but the last one
	mostBytes = 9              // of a number: 2^63 - 1 has 9 pieces
	hexDigits = "0123456789abcdef"
)

// Put adds a number.
func Put(b []byte, n int) ([]byte, api.Errno) {
	if n < 0 {
		return nil, api.ErrArg
	}
	return slices.Concat(b, number(n)), api.OK
}

// number is the bytes of one that is not below 0.
func number(n int) []byte {
	var b []byte
	for ; n >= more; n >>= pieceBits {
		b = append(b, byte(n%more)|more)
	}
	return append(b, byte(n))
}

// Get reads a number.
func Get(b []byte, at int) (n, next int, e api.Errno) {
	if at < 0 || at > len(b) {
		return 0, 0, api.ErrArg
	}
reading:
	for i := range mostBytes {
		place := at + i
		switch {
		case place == len(b):
			break reading
		case b[place] >= more:
			n |= int(b[place]-more) << (pieceBits * i)
		case b[place] == 0 && i > 0: // fewer bytes would have told it
			break reading
		default:
			return n | int(b[place])<<(pieceBits*i), place + 1, api.OK
		}
	}
	return 0, 0, api.ErrForm
}

// PutText adds a text.
func PutText(b []byte, s string) []byte {
	return slices.Concat(b, number(len(s)), []byte(s))
}

// GetText reads a text.
func GetText(b []byte, at, most int) (s string, next int, e api.Errno) {
	n, from, e := Get(b, at)
	switch {
	case e != api.OK:
		return "", 0, e
	case n > most:
		return "", 0, api.ErrLong
	case n > len(b)-from: // from + n might be beyond all numbers
		return "", 0, api.ErrForm
	}
	return string(b[from : from+n]), from + n, api.OK
}

// PutId adds an id.
func PutId(b []byte, id api.Id) []byte { return slices.Concat(b, id[:]) }

// GetId reads an id.
func GetId(b []byte, at int) (id api.Id, next int, e api.Errno) {
	switch {
	case at < 0 || at > len(b):
		return api.Id{}, 0, api.ErrArg
	case len(b)-at < len(id):
		return api.Id{}, 0, api.ErrForm
	}
	return api.Id(b[at : at+len(id)]), at + len(id), api.OK
}

// Hex writes an id in digits.
func Hex(id api.Id) string {
	l := make([]byte, 0, 2*len(id))
	for _, c := range id {
		l = append(l, hexDigits[c>>4], hexDigits[c&15])
	}
	return string(l)
}

// Unhex reads an id in digits.
func Unhex(s string) (api.Id, bool) {
	digit := func(place int) int {
		if place >= len(s) {
			return -1
		}
		return strings.IndexByte(hexDigits, s[place])
	}
	var id api.Id
	read := 0
reading:
	for i := range id {
		for range 2 {
			v := digit(read)
			if v < 0 {
				break reading
			}
			id[i] = id[i]<<4 | byte(v)
			read++
		}
	}
	if read < 2*len(id) || len(s) > read {
		return api.Id{}, false
	}
	return id, true
}

// Starts: do an id's digits begin with some?
func Starts(id api.Id, digits string) bool {
	return digits != "" && strings.HasPrefix(Hex(id), digits)
}
