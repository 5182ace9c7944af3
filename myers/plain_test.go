package myers_test

import (
	"testing"
	"unicode/utf8"

	"variorum/api"
)

// rest is the rest's costs, put down as the chapter tells them: at i, j the least number of numbers dropped and added.
func rest(a, b []rune) [][]int {
	costs := make([][]int, len(a)+1)
	for i := len(a); i >= 0; i-- {
		costs[i] = make([]int, len(b)+1)
		for j := len(b); j >= 0; j-- {
			switch {
			case i == len(a):
				costs[i][j] = len(b) - j
			case j == len(b):
				costs[i][j] = len(a) - i
			default:
				costs[i][j] = 1 + min(costs[i+1][j], costs[i][j+1])
				if a[i] == b[j] {
					costs[i][j] = min(costs[i][j], costs[i+1][j+1])
				}
			}
		}
	}
	return costs
}

// plainMoves is the script, put down as the chapter tells it, and its cost.
func plainMoves(a, b []rune) ([]uint8, int) {
	costs := rest(a, b)
	var moves []uint8
	i, j := 0, 0
	for i < len(a) || j < len(b) {
		switch {
		case i < len(a) && j < len(b) && a[i] == b[j]:
			moves = append(moves, 1)
			i++
			j++
		case i < len(a) && (j == len(b) || costs[i+1][j] <= costs[i][j+1]):
			moves = append(moves, 2)
			i++
		default:
			moves = append(moves, 3)
			j++
		}
	}
	return moves, costs[0][0]
}

// plainEdits is a script as edits: kept ones end an edit that drops or adds.
func plainEdits(moves []uint8, b string) []api.Edit {
	var l []api.Edit
	ahead := uint8(0)
	for _, move := range moves {
		if len(l) == 0 || move == 1 && ahead != 1 {
			l = append(l, api.Edit{})
		}
		edit := &l[len(l)-1]
		r, size := utf8.DecodeRuneInString(b)
		switch move {
		case 1:
			edit.Keep++
		case 2:
			edit.Drop++
			size = 0
		case 3:
			edit.Add += string(r)
		}
		b = b[size:]
		ahead = move
	}
	return l
}

// common is how long the longest common subsequence of two is.
func common(a, b []rune) int {
	row := make([]int, len(b)+1)
	for _, x := range a {
		diagonal := 0
		for j, y := range b {
			next := max(row[j], row[j+1])
			if x == y {
				next = diagonal + 1
			}
			diagonal, row[j+1] = row[j+1], next
		}
	}
	return row[len(b)]
}

// The test's own: what the chapter's words come to, of its examples.
func TestPlain(t *testing.T) {
	for _, c := range []struct {
		a, b  string
		moves []uint8
	}{
		{"abc", "axc", []uint8{1, 2, 3, 1}},
		{"aab", "ab", []uint8{1, 2, 1}},
		{"", "", nil},
		{"ab", "ba", []uint8{2, 1, 3}},
	} {
		moves, cost := plainMoves([]rune(c.a), []rune(c.b))
		if string(moves) != string(c.moves) || cost != len(c.a)+len(c.b)-2*common([]rune(c.a), []rune(c.b)) {
			t.Errorf("%q to %q: %v, %d", c.a, c.b, moves, cost)
		}
	}
}
