package delta

import (
	"bytes"
	"cmp"
	"slices"
	"sort"
)

const rowSize = 8 // bytes: no shorter row is copied

// span is some of the places in their order, those from one number on and ahead of another.
type span struct{ from, to int }

// rows tells where rows of bytes stand in others, in few steps even where the same ones stand there again and again.
type rows struct {
	bytes  []byte
	places []int                  // all of them, in order of what stands from there on
	begin  map[[rowSize]byte]span // at which of the places a row begins
	least  []int                  // a tree: its leaves, from its middle on, are the places, and number i is the lesser one of 2i and 2i+1
}

// find finds all rows that stand in some bytes.
func find(b []byte) *rows {
	r := &rows{bytes: b, places: inOrder(b), begin: map[[rowSize]byte]span{}}
	for i, place := range r.places {
		if len(b)-place < rowSize {
			continue
		}
		row := [rowSize]byte(b[place:])
		begin, met := r.begin[row]
		if !met {
			begin.from = i
		}
		begin.to = i + 1
		r.begin[row] = begin
	}
	r.least = slices.Concat(r.places, r.places)
	for i := len(b) - 1; i > 0; i-- {
		r.least[i] = min(r.least[2*i], r.least[2*i+1])
	}
	return r
}

// longest tells of the longest row with which those wanted begin and which stands in the bytes the least place where it does, and its length; 0, if it is too short to be copied.
func (r *rows) longest(wanted []byte) (place, length int) {
	if len(wanted) < rowSize {
		return 0, 0
	}
	begin, met := r.begin[[rowSize]byte(wanted)]
	if !met {
		return 0, 0
	}
	// The more of what is wanted stands at a place, the nearer is that to where all of it would stand in the order.
	next := r.seek(begin, func(b []byte) bool { return bytes.Compare(b, wanted) >= 0 })
	for _, near := range r.places[max(next-1, begin.from):min(next+1, begin.to)] {
		length = max(length, common(r.bytes[near:], wanted))
	}
	row := wanted[:length]
	from := r.seek(begin, func(b []byte) bool { return bytes.Compare(b, row) >= 0 })
	to := r.seek(span{from, begin.to}, func(b []byte) bool { return !bytes.HasPrefix(b, row) })
	return r.first(span{from, to}), length
}

// seek is the number of the first place of a span that is so, by what stands from there on; all behind one that is so are so.
func (r *rows) seek(s span, so func(b []byte) bool) int {
	return s.from + sort.Search(s.to-s.from, func(i int) bool { return so(r.bytes[r.places[s.from+i]:]) })
}

// first is the least place of a span that is not empty.
func (r *rows) first(s span) int {
	leaves := len(r.places)
	from, to := s.from+leaves, s.to+leaves
	least := r.least[from]
	for ; from < to; from, to = from/2, to/2 {
		if from%2 == 1 { // what is above it stands for one ahead of the span, too
			least = min(least, r.least[from])
			from++
		}
		if to%2 == 1 { // likewise of the last one
			to--
			least = min(least, r.least[to])
		}
	}
	return least
}

// common is how many bytes two begin with that are the same.
func common(a, b []byte) int {
	n := 0
	for n < len(a) && n < len(b) && a[n] == b[n] {
		n++
	}
	return n
}

// sorter brings the places of bytes into the order of what stands from there on, twice as far each time.
type sorter struct {
	places []int
	known  int   // by so many bytes the places are in order
	rank   []int // of each place: by these bytes
	room   []int // for the next ranks
}

// inOrder is all places of some bytes, in order of what stands from there on; what ends first stands ahead.
func inOrder(b []byte) []int {
	s := &sorter{places: make([]int, len(b)), known: 1, rank: make([]int, len(b)), room: make([]int, len(b))}
	for i, c := range b {
		s.places[i], s.rank[i] = i, int(c)
	}
	slices.SortFunc(s.places, func(p, q int) int { return cmp.Compare(b[p], b[q]) })
	for s.part() {
		s.rise()
	}
	return s.places
}

// behind is the rank of what stands behind the known bytes of a place.
func (s *sorter) behind(place int) int {
	if len(s.rank)-place <= s.known {
		return -1
	}
	return s.rank[place+s.known]
}

// part sorts the places of each rank by what stands behind the known bytes: are there places of one rank?
func (s *sorter) part() bool {
	met := false
	for from := 0; from < len(s.places); {
		to := from + 1
		for to < len(s.places) && s.rank[s.places[to]] == s.rank[s.places[from]] {
			to++
		}
		if to-from > 1 {
			met = true
			slices.SortFunc(s.places[from:to], func(p, q int) int { return cmp.Compare(s.behind(p), s.behind(q)) })
		}
		from = to
	}
	return met
}

// rise ranks the places by twice as many bytes, which they are in order of.
func (s *sorter) rise() {
	for i, p := range s.places {
		s.room[p] = i
		if i == 0 {
			continue
		}
		if q := s.places[i-1]; s.rank[p] == s.rank[q] && s.behind(p) == s.behind(q) {
			s.room[p] = s.room[q]
		}
	}
	s.rank, s.room = s.room, s.rank
	s.known *= 2
}
