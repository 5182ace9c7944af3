package myers

// script is the least script.
func script(a, b []rune) []uint8 {
	f := newFinder(a, b)
	edits := f.find()
	var moves []uint8
	left, others := len(a), len(b)
	for left > 0 || others > 0 {
		switch {
		case left > 0 && others > 0 && a[len(a)-left] == b[len(b)-others]:
			moves = append(moves, MKeep)
			left--
			others--
			continue
		case others == 0 || left > 0 && f.list(edits-1, left-others).reaches(left-1, others):
			moves = append(moves, MDrop)
			left--
		default:
			moves = append(moves, MAdd)
			others--
		}
		edits--
	}
	return moves
}
