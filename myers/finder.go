package myers

// every is how many edits the lists that are kept stand apart.
const every = 64

// list is the furthest points that so many edits reach. As what is left decides where a script goes, a point is told by how many numbers of a and of b are left there, and points are reached from the one at which none is. Its diagonal is the one less the other; all points of a diagonal that are no further than one that is reached are reached, too.
type list struct {
	low  int     // the first point's diagonal; each other one's is two more than that of the one ahead
	left []int32 // how many numbers of a
}

// at is how many numbers of a are left at a point; -1, if there is none.
func (l list) at(place int) int {
	if place < 0 || place >= len(l.left) {
		return -1
	}
	return int(l.left[place])
}

// reaches: is a point reached?
func (l list) reaches(left, others int) bool {
	far := left - others - l.low
	return far >= 0 && far%2 == 0 && l.at(far/2) >= left
}

// high is the last point's diagonal.
func (l list) high() int { return l.low + 2*len(l.left) - 2 }

// near is the points on the diagonals that are at most so far from one; there are some.
func (l list) near(diagonal, far int) list {
	from := max(0, diagonal-far-l.low+1) / 2
	end := max(0, l.high()-diagonal-far+1) / 2
	return list{l.low + 2*from, l.left[from : len(l.left)-end]}
}

// finder finds the lists of two rows of numbers.
type finder struct {
	n, m  int               // how many numbers they have
	first list              // that of no edits
	next  func(l list) list // that of one edit more
	kept  map[int]list      // each 64th, by its number of edits
	again []list            // one that was kept, and those behind it, made again
	from  int               // its number of edits
}

func newFinder(a, b []rune) *finder {
	n, m := len(a), len(b)
	f := &finder{n: n, m: m, kept: map[int]list{}}
	try := func(diagonal, left int) int32 { // a point of it that is reached: how far do the same numbers lead from there?
		at, other := n-left, m-(left-diagonal)
		for at > 0 && other > 0 && a[at-1] == b[other-1] {
			at--
			other--
		}
		return int32(n - at)
	}
	f.first = list{0, []int32{try(0, 0)}}
	f.next = func(ahead list) list {
		low, high := f.around(ahead)
		l := list{low, make([]int32, (high-low)/2+1)}
		below := (low - 1 - ahead.low) / 2 // where in the list ahead the diagonal one less than low stands, or would
		for place := range len(l.left) {
			diagonal := low + 2*place
			furthest := max(ahead.at(below+place)+1, ahead.at(below+place+1))
			l.left[place] = try(diagonal, min(furthest, n, m+diagonal))
		}
		return l
	}
	return f
}

// around is the least and the greatest diagonal of the list behind one: one further on each side; but where the outermost one is reached to its end, one less far, as no script that needs more edits goes there or beyond.
func (f *finder) around(l list) (low, high int) {
	low, high = l.low-1, l.high()+1
	if l.reaches(f.m+l.low, f.m) {
		low += 2
	}
	if l.reaches(f.n, f.n-l.high()) {
		high -= 2
	}
	return low, high
}

// find tells how many edits reach the point at which all is left, and keeps lists on the way there.
func (f *finder) find() int {
	l := f.first
	edits := 0
	for {
		if edits%every == 0 {
			f.kept[edits] = l
		}
		if l.reaches(f.n, f.m) {
			return edits
		}
		l = f.next(l)
		edits++
	}
}

// list is that of so many edits, as far as it is asked by a script that is on a diagonal there. A point hangs on those that are as many diagonals away in a list as many edits ahead, and the script goes over one diagonal an edit: so no more of a kept list is needed than what is as near as the next one.
func (f *finder) list(edits, diagonal int) list {
	from := edits - edits%every
	if len(f.again) == 0 || f.from != from {
		f.from, f.again = from, []list{f.kept[from].near(diagonal, every)}
	}
	for len(f.again) <= edits-from {
		f.again = append(f.again, f.next(f.again[len(f.again)-1]))
	}
	return f.again[edits-from]
}
