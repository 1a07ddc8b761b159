package integral

import (
	"reflect"
	"slices"
	"testing"

	"querylab/api"
	"querylab/linear"
)

func TestSolveCases(t *testing.T) {
	const most = api.MaxSummary
	for _, c := range []struct {
		s    api.System
		want string
	}{
		{api.System{}, feasible}, {system([]int64{3, 0}, nil), feasible}, {system(make([]int64, api.MaxVars), nil), feasible},
		{system(nil, []int64{0}, nil), feasible}, {system(nil, []int64{1}, nil), infeasible}, {system(nil, []int64{0, -1}, nil, nil), infeasible},
		{system([]int64{0}, []int64{0}, []int64{7}), feasible}, {system([]int64{0}, []int64{7}, []int64{7}), infeasible}, {system([]int64{9}, []int64{1}, []int64{0}), infeasible},
		{double(), infeasible}, {system([]int64{5}, []int64{4}, []int64{2}), feasible}, {system([]int64{1}, []int64{4}, []int64{2}), infeasible}, {system([]int64{1}, []int64{3}, []int64{2}), infeasible},
		{pair(), infeasible}, {system([]int64{7, 4}, []int64{10, 4}, []int64{1, 2}, []int64{1, -1}), feasible},
		{system([]int64{2, 2}, []int64{5}, []int64{1, 1}), infeasible}, {system([]int64{2, 2}, []int64{-5}, []int64{-1, -1}), infeasible}, {system([]int64{2, 2}, []int64{-4}, []int64{-1, -1}), feasible},
		{system([]int64{4, 4, 4}, []int64{29}, []int64{6, 10, 15}), infeasible}, {system([]int64{5, 4, 4}, []int64{30}, []int64{6, 10, 15}), feasible},
		{system([]int64{6, 6, 6}, []int64{5, 5, 5}, []int64{1, 1, 0}, []int64{0, 1, 1}, []int64{1, 0, 1}), infeasible}, {system([]int64{6, 6, 6}, []int64{5, 5, 6}, []int64{1, 1, 0}, []int64{0, 1, 1}, []int64{1, 0, 1}), feasible},
		{system([]int64{1, 1, 0}, []int64{3}, []int64{2, 2, 1}), infeasible}, // 2 x + 2 y = 3: the third variable is in the way of a ProofLattice
		{system([]int64{499}, []int64{499}, []int64{1}), feasible}, {system([]int64{499}, []int64{500}, []int64{1}), infeasible}, {system([]int64{499}, []int64{498}, []int64{997}), infeasible},
		// the rows contradict each other, or depend on each other
		{system([]int64{9}, []int64{3, 4}, []int64{1}, []int64{1}), infeasible}, {system([]int64{9, 9}, []int64{5, 11}, []int64{1, 1}, []int64{2, 2}), infeasible}, {system([]int64{9, 9}, []int64{5, 10}, []int64{1, 1}, []int64{2, 2}), feasible},
		// numbers at their limits
		{system([]int64{most}, []int64{most}, []int64{1}), feasible}, {system([]int64{most - 1}, []int64{most}, []int64{1}), infeasible}, {system([]int64{most}, []int64{-most}, []int64{-api.MaxCoef}), feasible}, {system([]int64{999}, []int64{most}, []int64{api.MaxCoef}), infeasible},
		{system([]int64{most}, []int64{most - 1}, []int64{api.MaxCoef}), infeasible}, {system([]int64{most, most}, []int64{1}, []int64{api.MaxCoef, 1 - api.MaxCoef}), feasible}, {system([]int64{most, most}, []int64{1}, []int64{api.MaxCoef, -api.MaxCoef}), infeasible},
		{system([]int64{most, most}, []int64{most, 10}, []int64{1, 1}, []int64{1, -1}), feasible}, {system([]int64{most, most}, []int64{most, 11}, []int64{1, 1}, []int64{1, -1}), infeasible},
		{system([]int64{most, most, 1}, []int64{most, 11, 0}, []int64{1, 1, 0}, []int64{1, -1, 1}, []int64{0, 0, 1}), infeasible},
	} {
		if got := solve(t, c.s); got != c.want {
			t.Errorf("%v: %s", c.s, got)
		}
	}
}

func TestExamples(t *testing.T) {
	if x, p, err := Solve(double()); len(x) > 0 || !reflect.DeepEqual(p, lattices(frac(1, 2))) || err != api.ErrNone {
		t.Errorf("2 x = 3: %v, %v, %d", x, p, err)
	}
	s := double()
	s.Right[0] = 4
	if x, p, err := Solve(s); !slices.Equal(x, []int64{2}) || !reflect.DeepEqual(p, api.Proof{}) || err != api.OK {
		t.Errorf("2 x = 4: %v, %v, %d", x, p, err)
	}
	s = system([]int64{2, 2}, []int64{3}, []int64{1, 1})
	if x, p, err := Solve(s); !slices.Equal(x, []int64{2, 1}) || !reflect.DeepEqual(p, api.Proof{}) || err != api.OK {
		t.Errorf("x + y = 3: %v, %v, %d", x, p, err)
	}
}

// All systems with three variables and a row, or with two and two, of small numbers.
func TestSolveOfAllSmallSystems(t *testing.T) {
	count := map[string]int{}
	for code := range 3 * 3 * 3 * 5 * 5 * 5 * 9 {
		next := func(n int) int64 {
			digit := code % n
			code /= n
			return int64(digit)
		}
		s := system([]int64{next(3), next(3), 2 * next(3)}, []int64{next(9) - 2}, []int64{next(5) - 1, next(5) - 1, next(5) + 1})
		outcome := solve(t, s)
		decided(t, s, outcome)
		count[outcome]++
	}
	for code := range 3 * 3 * 4 * 4 * 4 * 4 * 5 * 5 {
		next := func(n int) int64 {
			digit := code % n
			code /= n
			return int64(digit)
		}
		s := system([]int64{next(3), 2 * next(3)}, []int64{next(5) - 1, 2*next(5) - 1}, []int64{next(4) - 1, next(4)}, []int64{next(4) - 2, 2 * next(4)})
		outcome := solve(t, s)
		decided(t, s, outcome)
		count[outcome]++
	}
	if count[feasible] < 10000 || count[infeasible] < 10000 {
		t.Errorf("outcomes: %v", count)
	}
}

func TestSolveOfPromisedSize(t *testing.T) {
	r := newMaker(3)
	count := map[string]int{}
	kinds := map[int]int{}
	for range 20000 {
		s := r.small(500)
		outcome := solve(t, s)
		decided(t, s, outcome)
		count[outcome]++
		_, p, _ := Solve(s)
		kinds[p.Kind]++
	}
	if count[feasible] < 5000 || count[infeasible] < 5000 || kinds[api.ProofSplit] < 500 || kinds[api.ProofLattice] < 500 || kinds[api.ProofBounds] < 500 {
		t.Errorf("outcomes: %v, kinds of proofs: %v", count, kinds)
	}
}

// Variables that must be 0 and many rows make a system large, but not the number of its points.
func TestSolveOfPromisedSizeWithManyRows(t *testing.T) {
	r := newMaker(4)
	for _, greatest := range []int64{1, api.MaxCoef} {
		for range 10 {
			s := api.System{Upper: make([]int64, api.MaxVars)}
			for _, v := range r.Perm(api.MaxVars)[:8] {
				s.Upper[v] = 1
			}
			s = r.rows(s, 2+r.IntN(api.MaxCons-1), greatest)
			for i := 1; i < len(s.Rows); i++ {
				if r.IntN(2) == 0 {
					s.Rows[i], s.Right[i] = s.Rows[0], s.Right[0]
				}
			}
			outcome := solve(t, s)
			var small api.System // without the variables that must be 0
			for v, u := range s.Upper {
				if u > 0 {
					small.Upper = append(small.Upper, u)
					small.Rows = extended(small.Rows, s.Rows, v)
				}
			}
			small.Right = s.Right
			decided(t, small, outcome)
		}
	}
}

// extended adds a column of other rows to rows.
func extended(rows, other [][]int64, v int) [][]int64 {
	if rows == nil {
		rows = make([][]int64, len(other))
	}
	for i := range rows {
		rows[i] = append(rows[i], other[i][v])
	}
	return rows
}

func TestSolveOfOtherSizes(t *testing.T) {
	r := newMaker(5)
	for _, c := range []struct {
		variables, rows                      int
		greatest, upper                      int64
		systems, feasible, infeasible, large int // at least, at least, at most
	}{
		{8, 3, 5, 5, 100, 30, 30, 0}, {10, 3, 10, 5, 60, 20, 15, 3}, {15, 3, 5, 3, 30, 15, 1, 1}, {20, 5, 3, 3, 10, 4, 0, 1},
		{30, 10, 1, 1, 50, 10, 10, 0}, {40, 20, 1, 1, 20, 3, 5, 0}, {3, 2, 1000, 1000, 100, 20, 30, 25}, {3, 1, 1000, 1000000, 100, 50, 5, 25}, {7, 3, api.MaxCoef, 2, 100, 20, 30, 0},
	} {
		count := map[string]int{}
		for range c.systems {
			if s := r.dense(c.variables, c.rows, c.greatest, c.upper); linear.Valid(s) == api.OK {
				count[solve(t, s)]++
			}
		}
		if count[feasible] < c.feasible || count[infeasible] < c.infeasible || count[large] > c.large {
			t.Errorf("%v: %v", c, count)
		}
	}
}

// tables makes the system of tables with two regions each, every one of which refers to the one before, and has as many rows; the last one has so many rows in its first region.
func tables(n int, size, last int64) api.System {
	var s api.System
	row := func(right int64) []int64 {
		s.Right = append(s.Right, right)
		s.Rows = append(s.Rows, make([]int64, 4*n-2))
		return s.Rows[len(s.Rows)-1]
	}
	for i := range n {
		all := row(size)
		all[2*i], all[2*i+1] = 1, 1
		s.Upper = append(s.Upper, size, size)
	}
	row(last)[2*n-2] = 1
	for k := range 2*n - 2 { // regions that are referred to
		referring := row(0)
		referring[k], referring[k+2], referring[2*n+k] = -size, 1, 1
		s.Upper = append(s.Upper, size*size)
	}
	return s
}

// The linear systems of the longer chains have solutions that are no lists of valid fractions.
func TestSolveOfTables(t *testing.T) {
	fail := 0
	for n := 2; n <= 7; n++ {
		for _, size := range []int64{1, 2, 30, 1000, 30011} {
			for _, last := range []int64{0, 1, size - 1, size, size + 1} {
				s := tables(n, size, last)
				if _, _, err := linear.Solve(s); err != api.OK {
					fail++
				}
				if got := solve(t, s); (got == feasible) != (last <= size) || got == large {
					t.Errorf("%d tables, %d of %d rows: %s", n, last, size, got)
				}
				first := newSearch(s, mostWork)
				first.sharp(root(s))
				if used := api.MaxBranch - first.nodes; used > 100 {
					t.Errorf("%d tables, %d of %d rows: %d nodes", n, last, size, used)
				}
			}
		}
	}
	if fail < 10 {
		t.Errorf("linear.Solve fails %d times", fail)
	}
}

// In these the fractions come nearer to whole numbers by one at each step, so that the proofs of the first search would be too deep.
func TestSolveWithoutDeepProofs(t *testing.T) {
	for _, c := range []struct {
		s    api.System
		want string
	}{
		{system([]int64{266, 173, 211}, []int64{-595, -816}, []int64{9, -10, 0}, []int64{7, 0, -12}), infeasible},
		{system([]int64{139, 279, 88}, []int64{464, -743}, []int64{-10, 10, 6}, []int64{-1, -3, -13}), infeasible},
		{system([]int64{205, 177, 140}, []int64{712, -533}, []int64{-26, 43, -21}, []int64{18, -23, 0}), infeasible},
		{system([]int64{311, 159, 316}, []int64{6911, 9336}, []int64{-8, -11, 30}, []int64{51, 56, -13}), feasible},
		{system([]int64{181, 168, 255}, []int64{5072, 1161}, []int64{19, -19, 32}, []int64{0, -48, 39}), feasible},
	} {
		first := newSearch(c.s, mostWork)
		if got := judged(t, c.s, first.sharp(root(c.s))); got != large {
			t.Errorf("%v: the case is wrong, %s", c.s, got)
		}
		if got := solve(t, c.s); got != c.want {
			t.Errorf("%v: %s", c.s, got)
		}
	}
}

// What cannot be decided ends, too.
func TestSolveOfHardSystems(t *testing.T) {
	r := newMaker(6)
	for _, c := range []struct {
		variables, rows int
		greatest, upper int64
	}{
		{20, 4, 99, 3}, {60, 2, 99999, 5}, {api.MaxVars, 3, api.MaxCoef, 1},
	} {
		s := r.dense(c.variables, c.rows, c.greatest, c.upper)
		solve(t, s)
	}
}

func TestSolveTwice(t *testing.T) {
	r := newMaker(7)
	for range 1000 {
		s := r.small(2000)
		x, p, err := Solve(s)
		y, q, e := Solve(clone(s))
		if !slices.Equal(x, y) || !reflect.DeepEqual(p, q) || err != e {
			t.Fatalf("%v: %v, %v, %d and %v, %v, %d", s, x, p, err, y, q, e)
		}
	}
}

// filledWith puts a number into all of a proof.
func filledWith(n int64, p api.Proof) {
	for i := range p.Multipliers {
		p.Multipliers[i] = frac(n, 1)
	}
	for k := range p.Kids {
		filledWith(n, p.Kids[k])
		p.Kids[k].Bound = n
	}
}

// leaves returns the multipliers of all leaves.
func leaves(p api.Proof) [][]api.Frac {
	if len(p.Kids) == 0 {
		return [][]api.Frac{p.Multipliers}
	}
	var l [][]api.Frac
	for _, kid := range p.Kids {
		l = append(l, leaves(kid)...)
	}
	return l
}

func TestResultsShareNoMemory(t *testing.T) {
	r := newMaker(8)
	for range 1000 {
		s := r.small(500)
		before := clone(s)
		x, p, err := Solve(s)
		y, q := slices.Clone(x), leaves(p)
		for i := range q {
			q[i] = slices.Clone(q[i])
		}
		for v := range s.Upper {
			s.Upper[v]++
		}
		for _, row := range s.Rows {
			clear(row)
		}
		clear(s.Right)
		if !slices.Equal(x, y) || !reflect.DeepEqual(leaves(p), q) || err == api.ErrNone && !CheckProof(before, p) {
			t.Fatalf("%v: a result has changed", before)
		}
		after := clone(s)
		clear(x)
		for i, l := range leaves(p) {
			if !slices.Equal(l, q[i]) {
				t.Fatalf("%v: leaves share multipliers", before)
			}
			clear(l)
		}
		filledWith(3, p)
		if !reflect.DeepEqual(s, after) {
			t.Fatalf("%v: the system changes with its results", before)
		}
	}
}
