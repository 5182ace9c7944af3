package block

import (
	"slices"
	"sort"

	"variorum/api"
	"variorum/order"
	"variorum/utf"
)

const (
	beginning = 0         // the number of the piece without elements, which stands ahead of the first one and behind the last
	maxIndex  = 1<<31 - 1 // of an element's key
)

// piece is elements one behind the other, whose keys are so too: all of them live, or all dead. No two live ones, one behind the other, could be one.
type piece struct {
	key   api.Key // the first one's
	n     int
	runes []rune // none of dead ones: nobody asks what they were
	next  int    // the number of the piece behind it in the one order
}

func (p piece) live() bool { return len(p.runes) > 0 }

// last is the last one's Index.
func (p piece) last() int { return p.key.Index + (p.n - 1) }

// at is the key of an element of it.
func (p piece) at(place int) api.Key {
	key := p.key
	key.Index += place
	return key
}

func (p piece) text() string {
	s, _ := utf.Text(p.runes) // each rune may be
	return s
}

// leads: could another one's elements be of this one too, if they stood right behind it?
func (p piece) leads(other piece) bool {
	return origin(p.key) == origin(other.key) && p.last() == other.key.Index-1
}

// origin is what the keys of one time and change share.
func origin(key api.Key) api.Key {
	key.Index = 0
	return key
}

// mayBe: may n elements (one at least) from a key on be?
func mayBe(key api.Key, n int) bool { return key.Index >= 0 && n-1 <= maxIndex-key.Index }

// search tells which of the pieces of a key's origin is the first one that does not end ahead of the key.
func (d *Doc) search(key api.Key) (numbers []int, i int) {
	numbers = d.made[origin(key)]
	return numbers, sort.Search(len(numbers), func(i int) bool { return d.pieces[numbers[i]].last() >= key.Index })
}

// find tells in which piece an element is, and how many stand ahead of it there.
func (d *Doc) find(key api.Key) (number, place int, ok bool) {
	numbers, i := d.search(key)
	if i == len(numbers) || d.pieces[numbers[i]].key.Index > key.Index {
		return 0, 0, false
	}
	return numbers[i], key.Index - d.pieces[numbers[i]].key.Index, true
}

// count tells how many of n elements from a key on, which may be, there are.
func (d *Doc) count(key api.Key, n int) int {
	last := key.Index + (n - 1)
	numbers, i := d.search(key)
	met := 0
	for _, number := range numbers[i:] {
		p := d.pieces[number]
		if p.key.Index > last {
			break
		}
		met += 1 + min(last, p.last()) - max(key.Index, p.key.Index)
	}
	return met
}

// pass goes from a piece on past all that an element with a key, which is to stand behind it, stands behind: its later siblings, and what is below them, have greater keys; the first one that has a lesser key is no longer of them.
func (d *Doc) pass(number int, key api.Key) int {
	for {
		next := d.pieces[number].next
		if next == beginning || order.Keys(d.pieces[next].key, key) < 0 {
			return number
		}
		number = next
	}
}

// put puts a new piece behind another one, or makes them one, so that live pieces stay as long as can be.
func (d *Doc) put(ahead int, p piece) {
	other := &d.pieces[ahead]
	if other.live() && other.leads(p) {
		other.n += p.n
		other.runes = append(other.runes, p.runes...)
		return
	}
	d.link(ahead, p)
}

// link lays a piece behind another one.
func (d *Doc) link(ahead int, p piece) int {
	number := len(d.pieces)
	p.next, d.pieces[ahead].next = d.pieces[ahead].next, number
	d.pieces = append(d.pieces, p)
	numbers, i := d.search(p.key)
	d.made[origin(p.key)] = slices.Insert(numbers, i, number)
	return number
}

// cut makes what stands behind a piece's first n a piece of its own. Where there is nothing on one of the sides, the piece stays as it is, and is the answer.
func (d *Doc) cut(number, n int) int {
	p := d.pieces[number]
	if n == 0 || n == p.n {
		return number
	}
	rest := piece{key: p.at(n), n: p.n - n}
	if p.live() { // neither has the other's runes in the room behind its own, where put appends
		p.runes, rest.runes = p.runes[:n:n], p.runes[n:p.n:p.n]
	}
	p.n = n
	d.pieces[number] = p
	return d.link(number, rest)
}

// kill makes n elements of a piece dead.
func (d *Doc) kill(number, place, n int) {
	number = d.cut(number, place)
	d.cut(number, n)
	d.pieces[number].runes = nil
}
