package score_test

import (
	"math"
	"math/rand"
	"slices"
	"testing"

	"variorum/api"
	"variorum/score"
)

const tiny = math.SmallestNonzeroFloat64

// below is -0, which no constant can be.
var below = math.Copysign(0, -1)

// ordered is numbers in the chapter's order, no two the same but for NaNs.
func ordered() []float64 {
	return []float64{
		math.Inf(-1), -math.MaxFloat64, -1e300, -2, math.Nextafter(-1, -2), -1, math.Nextafter(-1, 0), -0x1p-1022, -2 * tiny, -tiny,
		below,
		0, tiny, 2 * tiny, 0x1p-1022, math.Nextafter(1, 0), 1, math.Nextafter(1, 2), 2, 1e300, math.MaxFloat64, math.Inf(1),
	}
}

// nans are NaNs of unlike bits: of either sign, quiet or not.
func nans() []float64 {
	l := []float64{}
	for _, b := range []uint64{0x7ff8000000000001, 0x7ff8000000000000, 0x7ff0000000000001, 0x7fffffffffffffff, 0xfff8000000000000, 0xfff0000000000001, 0xffffffffffffffff} {
		l = append(l, math.Float64frombits(b))
	}
	return l
}

// same: have they the same bits, or are both NaN?
func same(x, y float64) bool {
	return math.IsNaN(x) && math.IsNaN(y) || math.Float64bits(x) == math.Float64bits(y)
}

// sameLists: is each number the same?
func sameLists(a, b []float64) bool { return slices.EqualFunc(a, b, same) }

// ahead: does x stand ahead of y, by the chapter's words?
func ahead(x, y float64) bool {
	switch {
	case math.IsNaN(x) || math.IsNaN(y):
		return !math.IsNaN(x) && math.IsNaN(y)
	case x == 0 && y == 0:
		return math.Signbit(x) && !math.Signbit(y)
	}
	return x < y
}

// some is so many numbers, many of them the same, edges among them.
func some(chance *rand.Rand, n int) []float64 {
	all := append(ordered(), nans()...)
	l := make([]float64, n)
	for i := range l {
		switch chance.Intn(3) {
		case 0:
			l[i] = all[chance.Intn(len(all))]
		case 1:
			l[i] = float64(chance.Intn(5) - 2)
		default:
			l[i] = chance.NormFloat64()
		}
	}
	return l
}

// P5.1: a by b, with the edges of dividing by 0, and of numbers that floats have not.
func TestRatio(t *testing.T) {
	for _, x := range []struct {
		a, b int
		want float64
	}{
		{0, 0, math.NaN()}, {1, 0, math.Inf(1)}, {-1, 0, math.Inf(-1)}, {0, -1, below}, {0, 1, 0},
		{1, 2, 0.5}, {-1, 2, -0.5}, {1, -2, -0.5}, {-1, -2, 0.5}, {1, 3, 1.0 / 3}, {2, 3, 2.0 / 3}, {10, 5, 2}, {7, 7, 1},
		{5, 0, math.Inf(1)}, {math.MinInt, 0, math.Inf(-1)}, {math.MaxInt, 0, math.Inf(1)}, {0, math.MinInt, below}, {0, math.MaxInt, 0},
		{math.MaxInt, 1, 0x1p63}, {math.MinInt, 1, -0x1p63}, {math.MinInt, -1, 0x1p63}, {math.MaxInt, math.MinInt, -1}, {1, math.MinInt, -0x1p-63},
		{1<<53 + 1, 1, 0x1p53}, {1<<53 + 3, 1, 0x1p53 + 4}, {1<<53 + 1, 1<<53 + 1, 1}, {1<<53 + 1, 1 << 53, 1}, {3, 1<<53 + 1, 3 * 0x1p-53},
	} {
		if got := score.Ratio(x.a, x.b); !same(got, x.want) {
			t.Errorf("%d by %d: %g, want %g", x.a, x.b, got, x.want)
		}
	}
	chance := rand.New(rand.NewSource(10))
	for range 10000 {
		a, b := int(chance.Uint64()>>chance.Intn(64)), int(chance.Uint64()>>chance.Intn(64))
		if got, want := score.Ratio(a, b), float64(a)/float64(b); !same(got, want) {
			t.Fatalf("%d by %d: %g, want %g", a, b, got, want)
		}
	}
}

// P5.1: twice what is common by all, NaN where a number is out of its bounds, or nothing is divided by nothing.
func TestLike(t *testing.T) {
	const most = api.MaxTime
	nan := math.NaN()
	for _, x := range []struct {
		common, n, m int
		want         float64
	}{
		{0, 0, 0, nan}, {1, 0, 0, math.Inf(1)}, {0, 1, 0, 0}, {0, 0, 1, 0}, {0, 4, 5, 0}, {1, 1, 1, 1}, {5, 5, 6, 10.0 / 11}, {3, 4, 5, 6.0 / 9}, {2, 3, 7, 0.4}, {9, 1, 2, 6},
		{most, most, most, 1}, {most, 0, 0, math.Inf(1)}, {0, most, 0, 0}, {most, most, 0, 2}, {most - 1, most, most, float64(2*most-2) / float64(2*most)},
		{-1, 1, 1, nan}, {1, -1, 1, nan}, {1, 1, -1, nan}, {1, -1, 2, nan}, {1, 2, -1, nan}, {-1, -1, -1, nan},
		{most + 1, 1, 1, nan}, {1, most + 1, 1, nan}, {1, 1, most + 1, nan}, {0, most + 1, 0, nan},
		{math.MaxInt, 1, 1, nan}, {1, math.MaxInt, math.MaxInt, nan}, {math.MinInt, 0, 1, nan}, {0, math.MinInt, math.MaxInt, nan},
	} {
		if got := score.Like(x.common, x.n, x.m); !same(got, x.want) {
			t.Errorf("%d of %d and %d: %g, want %g", x.common, x.n, x.m, got, x.want)
		}
	}
}

// P5.2: every two numbers, and NaN behind all, being one.
func TestOrder(t *testing.T) {
	l := ordered()
	for i, x := range l {
		for j, y := range l {
			want := 0
			if i < j {
				want = -1
			} else if i > j {
				want = 1
			}
			if got := score.Order(x, y); got != want {
				t.Errorf("%g, %g: %d", x, y, got)
			}
		}
		for _, nan := range nans() {
			if score.Order(x, nan) != -1 || score.Order(nan, x) != 1 {
				t.Errorf("%g and NaN (%x)", x, math.Float64bits(nan))
			}
		}
	}
	for _, a := range nans() {
		for _, b := range nans() {
			if got := score.Order(a, b); got != 0 {
				t.Errorf("NaNs %x, %x: %d", math.Float64bits(a), math.Float64bits(b), got)
			}
		}
	}
}

// P5.2: any numbers, whatever their bits.
func TestOrderAny(t *testing.T) {
	chance := rand.New(rand.NewSource(11))
	for range 100000 {
		x, y := math.Float64frombits(chance.Uint64()), math.Float64frombits(chance.Uint64())
		want := 0
		if ahead(x, y) {
			want = -1
		} else if ahead(y, x) {
			want = 1
		}
		if got := score.Order(x, y); got != want {
			t.Fatalf("%g, %g: %d", x, y, got)
		}
	}
}

// P5.2: the first place of the greatest number, whatever NaNs stand around it.
func TestBest(t *testing.T) {
	nan := math.NaN()
	for _, x := range []struct {
		l    []float64
		want int
		ok   bool
	}{
		{nil, 0, false}, {[]float64{}, 0, false}, {[]float64{nan}, 0, false}, {nans(), 0, false},
		{[]float64{1}, 0, true}, {[]float64{1, 2, 2, 1}, 1, true}, {[]float64{2, 1, 2}, 0, true}, {[]float64{-2, -1, -3}, 1, true},
		{[]float64{nan, nan, math.Inf(-1), nan}, 2, true}, {[]float64{nan, 1, math.Inf(1), nan, math.Inf(1)}, 2, true},
		{[]float64{below, 0, below, 0}, 1, true}, {[]float64{below, below, nan}, 0, true}, {[]float64{0, below}, 0, true},
		{[]float64{-tiny, below}, 1, true}, {[]float64{math.Inf(-1)}, 0, true}, {[]float64{0, tiny}, 1, true},
	} {
		if got, ok := score.Best(x.l); got != x.want || ok != x.ok {
			t.Errorf("%g: %d, %t", x.l, got, ok)
		}
	}
	chance := rand.New(rand.NewSource(12))
	for range 3000 {
		l := some(chance, chance.Intn(12))
		best := -1
		for i, x := range l {
			if !math.IsNaN(x) && (best < 0 || ahead(l[best], x)) {
				best = i
			}
		}
		if got, ok := score.Best(l); got != max(best, 0) || ok != (best >= 0) {
			t.Fatalf("%g: %d, %t", l, got, ok)
		}
	}
}

// ranked is the places by the chapter's words, the next one sought each time.
func ranked(l []float64) []int {
	left := []int{}
	for i := range l {
		left = append(left, i)
	}
	places := []int{}
	for len(left) > 0 {
		next := 0
		for k, i := range left {
			x, best := l[i], l[left[next]]
			if !math.IsNaN(x) && (math.IsNaN(best) || ahead(best, x)) {
				next = k
			}
		}
		places = append(places, left[next])
		left = slices.Delete(left, next, next+1)
	}
	return places
}

// P5.2: places, the greatest numbers first, NaNs last, of the same ones the lesser place first.
func TestRank(t *testing.T) {
	nan := math.NaN()
	for _, x := range []struct {
		l    []float64
		want []int
	}{
		{nil, nil}, {[]float64{}, nil}, {[]float64{7}, []int{0}}, {[]float64{nan, below, 0}, []int{2, 1, 0}},
		{[]float64{nan, math.Inf(-1), nan, math.Inf(1), 0}, []int{3, 4, 1, 0, 2}}, {nans(), []int{0, 1, 2, 3, 4, 5, 6}},
		{[]float64{1, 2, 3, 2, 1}, []int{2, 1, 3, 0, 4}}, {[]float64{0, below, 0, below}, []int{0, 2, 1, 3}}, {[]float64{-1, -2, -3}, []int{0, 1, 2}},
	} {
		if got := score.Rank(x.l); !slices.Equal(got, x.want) {
			t.Errorf("%g: %v, want %v", x.l, got, x.want)
		}
	}
	chance := rand.New(rand.NewSource(13))
	for n := range 150 {
		l := some(chance, n)
		before := slices.Clone(l)
		if got, want := score.Rank(l), ranked(l); !slices.Equal(got, want) {
			t.Fatalf("%g: %v, want %v", l, got, want)
		}
		if !sameLists(l, before) {
			t.Fatal("what was handed in was changed")
		}
	}
}

// P5.3: added from the first on, to +0, each result rounded, and divided once.
func TestMean(t *testing.T) {
	nan, inf := math.NaN(), math.Inf(1)
	tenths := slices.Repeat([]float64{0.1}, 10)
	for _, x := range []struct {
		l    []float64
		want float64
	}{
		{nil, nan}, {[]float64{}, nan}, {[]float64{3}, 3}, {[]float64{1, 2}, 1.5}, {[]float64{1, 2, 4}, 7.0 / 3},
		{[]float64{below}, 0}, {[]float64{below, below}, 0}, {[]float64{1, -1}, 0}, {[]float64{-1, -2}, -1.5}, {tenths, 0.09999999999999999},
		{[]float64{1e16, 1, -1e16}, 0}, {[]float64{1e16, -1e16, 1}, 1.0 / 3}, {[]float64{1, 1e16, -1e16}, 0},
		{[]float64{math.MaxFloat64, math.MaxFloat64}, inf}, {[]float64{math.MaxFloat64, math.MaxFloat64, -math.MaxFloat64}, inf}, {[]float64{-math.MaxFloat64, -math.MaxFloat64}, -inf},
		{[]float64{inf, 1}, inf}, {[]float64{inf, -inf}, nan}, {[]float64{1, nan, 2}, nan}, {[]float64{nan, inf}, nan},
		{[]float64{tiny, 0}, 0}, {[]float64{tiny, tiny, tiny, 0}, tiny}, {[]float64{-tiny, 0}, below},
	} {
		if got := score.Mean(x.l); !same(got, x.want) {
			t.Errorf("%g: %g, want %g", x.l, got, x.want)
		}
	}
}

// P5.3: each number by the sum of all, which is Mean's.
func TestShares(t *testing.T) {
	nan, inf := math.NaN(), math.Inf(1)
	for _, x := range []struct{ l, want []float64 }{
		{nil, nil}, {[]float64{}, nil}, {[]float64{5}, []float64{1}}, {[]float64{1, 3}, []float64{0.25, 0.75}}, {[]float64{-1, 3}, []float64{-0.5, 1.5}},
		{[]float64{1, 1, 1}, []float64{1.0 / 3, 1.0 / 3, 1.0 / 3}}, {[]float64{2, 1}, []float64{2.0 / 3, 1.0 / 3}},
		{[]float64{0, 0}, []float64{nan, nan}}, {[]float64{below}, []float64{nan}}, {[]float64{1, -1, 0}, []float64{inf, -inf, nan}},
		{[]float64{0, below, 1}, []float64{0, below, 1}}, {[]float64{0, below, -1}, []float64{below, 0, 1}},
		{[]float64{inf, 1, -1}, []float64{nan, 0, below}}, {[]float64{nan, 1}, []float64{nan, nan}},
		{[]float64{math.MaxFloat64, math.MaxFloat64}, []float64{0, 0}}, {[]float64{1e16, 1, -1e16}, []float64{inf, inf, -inf}}, {[]float64{1e16, -1e16, 1}, []float64{1e16, -1e16, 1}},
		{[]float64{tiny, tiny}, []float64{0.5, 0.5}},
	} {
		before := slices.Clone(x.l)
		if got := score.Shares(x.l); !sameLists(got, x.want) {
			t.Errorf("%g: %g, want %g", x.l, got, x.want)
		}
		if !sameLists(x.l, before) {
			t.Error("what was handed in was changed")
		}
	}
	chance := rand.New(rand.NewSource(14))
	for range 1000 {
		l := some(chance, chance.Intn(9))
		all := 0.0
		want := []float64{}
		for _, x := range l {
			all += x
		}
		for _, x := range l {
			want = append(want, x/all)
		}
		if got := score.Shares(l); !sameLists(got, want) {
			t.Fatalf("%g: %g, want %g", l, got, want)
		}
		if got, want := score.Mean(l), all/float64(len(l)); !same(got, want) {
			t.Fatalf("%g: %g, want %g", l, got, want)
		}
	}
}

// matched is the pairs by the chapter's words, the next one sought each time.
func matched(scores [][]float64, least float64) [][2]int {
	told := [][2]int{}
	for {
		next := [2]int{-1, -1}
		for row, l := range scores {
			for column, x := range l {
				isTold := slices.ContainsFunc(told, func(p [2]int) bool { return p[0] == row || p[1] == column })
				if isTold || math.IsNaN(x) || ahead(x, least) {
					continue
				}
				if next[0] < 0 || ahead(scores[next[0]][next[1]], x) {
					next = [2]int{row, column}
				}
			}
		}
		if next[0] < 0 {
			return told
		}
		told = append(told, next)
	}
}

// P5.4: pairs one by one, with least at the numbers' edges, and of the same numbers the least row, then column.
func TestMatch(t *testing.T) {
	nan, inf := math.NaN(), math.Inf(1)
	for _, x := range []struct {
		scores [][]float64
		least  float64
		want   [][2]int
	}{
		{[][]float64{{1, 3}, {3, 2}}, 2, [][2]int{{0, 1}, {1, 0}}},
		{[][]float64{{1, 3}, {3, 2}}, 3, [][2]int{{0, 1}, {1, 0}}}, {[][]float64{{1, 3}, {3, 2}}, math.Nextafter(3, 4), nil},
		{nil, 0, nil}, {[][]float64{}, 0, nil}, {[][]float64{{}, nil, {}}, -inf, nil}, {[][]float64{{}, {5}}, 0, [][2]int{{1, 0}}},
		{[][]float64{{1, 1}, {1, 1}}, 1, [][2]int{{0, 0}, {1, 1}}}, {[][]float64{{1, 1, 1}, {1}}, 1, [][2]int{{0, 0}}}, {[][]float64{{1}, {1, 1}}, 1, [][2]int{{0, 0}, {1, 1}}},
		{[][]float64{{2, 9}, {1, 8}}, 0, [][2]int{{0, 1}, {1, 0}}}, {[][]float64{{5, 4}, {4, 0}}, 1, [][2]int{{0, 0}}}, {[][]float64{{4}, {5}, {6}}, 0, [][2]int{{2, 0}}},
		{[][]float64{{0, below}, {below, 0}}, 0, [][2]int{{0, 0}, {1, 1}}}, {[][]float64{{below, 0}, {below, below}}, 0, [][2]int{{0, 1}}}, {[][]float64{{below, 0}, {below, below}}, below, [][2]int{{0, 1}, {1, 0}}},
		{[][]float64{{nan, inf}, {-inf, nan}}, -inf, [][2]int{{0, 1}, {1, 0}}}, {[][]float64{{nan, inf}, {-inf, nan}}, inf, [][2]int{{0, 1}}}, {[][]float64{{nan, nan}, {nan}}, -inf, nil},
		{[][]float64{{nan, 1}, {1, inf}}, nan, nil}, {[][]float64{{1}}, nan, nil}, {[][]float64{{nan}}, nan, nil}, {[][]float64{{inf}}, -nan, nil},
	} {
		if got := score.Match(x.scores, x.least); !slices.Equal(got, x.want) {
			t.Errorf("%g, least %g: %v, want %v", x.scores, x.least, got, x.want)
		}
	}
}

// P5.4: rows of unlike lengths, numbers of all kinds.
func TestMatchAny(t *testing.T) {
	chance := rand.New(rand.NewSource(15))
	for range 4000 {
		var scores, before [][]float64
		for range chance.Intn(7) {
			scores = append(scores, some(chance, chance.Intn(7)))
			before = append(before, slices.Clone(scores[len(scores)-1]))
		}
		least := some(chance, 1)[0]
		if chance.Intn(2) == 0 {
			least = -1
		}
		if got, want := score.Match(scores, least), matched(scores, least); !slices.Equal(got, want) {
			t.Fatalf("%g, least %g: %v, want %v", scores, least, got, want)
		}
		if !slices.EqualFunc(scores, before, sameLists) {
			t.Fatal("what was handed in was changed")
		}
	}
}

// P5.4: a great table ends soon.
func TestMatchMany(t *testing.T) {
	const n = 400
	scores := make([][]float64, n)
	for i := range scores {
		for j := range n {
			scores[i] = append(scores[i], float64(i*j%7))
		}
	}
	l := score.Match(scores, 0)
	if len(l) != n {
		t.Fatalf("%d pairs", len(l))
	}
	rows, columns := make([]bool, n), make([]bool, n)
	for i, p := range l {
		if rows[p[0]] || columns[p[1]] || i > 0 && scores[p[0]][p[1]] > scores[l[i-1][0]][l[i-1][1]] {
			t.Fatalf("pair %d: %v", i, p)
		}
		rows[p[0]], columns[p[1]] = true, true
	}
}

// R4: what is handed out is new memory, and the spare room behind a list's end stays as it was.
func TestNewMemory(t *testing.T) {
	room := []float64{1, 2, 3, 9, 9}
	l := room[:3]
	a, b := score.Shares(l), score.Shares(l)
	a[0] = 7
	_ = append(a, 7)
	places := score.Rank(l)
	places[0] = 7
	if b[0] != 1.0/6 || score.Rank(l)[0] != 2 || !slices.Equal(room, []float64{1, 2, 3, 9, 9}) {
		t.Errorf("%g, %g", b, room)
	}
	pairs := score.Match([][]float64{l}, 0)
	pairs[0][0] = 7
	if again := score.Match([][]float64{l}, 0); again[0] != [2]int{0, 2} || !slices.Equal(room, []float64{1, 2, 3, 9, 9}) {
		t.Errorf("%v, %g", again, room)
	}
}
