package linear

import (
	"slices"
	"testing"

	"querylab/api"
)

func TestSolveCases(t *testing.T) {
	for _, c := range []struct {
		s    api.System
		want string
	}{
		{api.System{}, feasible},
		{api.System{Upper: []int64{3, 0}}, feasible},
		{api.System{Upper: make([]int64, api.MaxVars)}, feasible},
		{api.System{Rows: [][]int64{{}}, Right: []int64{0}}, feasible},
		{api.System{Rows: [][]int64{{}}, Right: []int64{1}}, infeasible},
		{api.System{Rows: [][]int64{{}}, Right: []int64{-1}}, infeasible},
		{api.System{Rows: [][]int64{{}, nil, {}}, Right: []int64{0, 0, -5}}, infeasible},
		{api.System{Upper: []int64{2, 2}, Rows: [][]int64{{1, 1}}, Right: []int64{5}}, infeasible},
		{api.System{Upper: []int64{2, 2}, Rows: [][]int64{{1, 1}}, Right: []int64{4}}, feasible},
		{api.System{Upper: []int64{2, 2}, Rows: [][]int64{{-1, -1}}, Right: []int64{-4}}, feasible},
		{api.System{Upper: []int64{2, 2}, Rows: [][]int64{{-1, -1}}, Right: []int64{-5}}, infeasible},
		{api.System{Upper: []int64{2, 2}, Rows: [][]int64{{1, 1}}, Right: []int64{-1}}, infeasible},
		{api.System{Upper: []int64{2, 2}, Rows: [][]int64{{-1, -1}}, Right: []int64{1}}, infeasible},
		{api.System{Upper: []int64{2, 2}, Rows: [][]int64{{1, -1}}, Right: []int64{0}}, feasible},
		{api.System{Upper: []int64{0, 0}, Rows: [][]int64{{1, -1}}, Right: []int64{1}}, infeasible},
		{api.System{Upper: []int64{0, 0}, Rows: [][]int64{{0, 0}}, Right: []int64{0}}, feasible},
		{api.System{Upper: []int64{9, 9}, Rows: [][]int64{{0, 0}}, Right: []int64{1}}, infeasible},
		{api.System{Upper: []int64{5}, Rows: [][]int64{{2}}, Right: []int64{3}}, feasible}, // 3/2
		{api.System{Upper: []int64{1}, Rows: [][]int64{{2}}, Right: []int64{3}}, infeasible},
		{api.System{Upper: []int64{9}, Rows: [][]int64{{1}, {1}}, Right: []int64{3, 3}}, feasible},
		{api.System{Upper: []int64{9}, Rows: [][]int64{{1}, {1}}, Right: []int64{3, 4}}, infeasible},
		{api.System{Upper: []int64{9}, Rows: [][]int64{{1}, {-1}}, Right: []int64{3, -3}}, feasible},
		{api.System{Upper: []int64{9}, Rows: [][]int64{{1}, {-1}}, Right: []int64{3, 3}}, infeasible},
		{api.System{Upper: []int64{9}, Rows: [][]int64{{2}, {3}}, Right: []int64{4, 6}}, feasible},
		{api.System{Upper: []int64{9, 9, 9}, Rows: [][]int64{{1, 1, 0}, {0, 1, 1}, {1, 2, 1}}, Right: []int64{5, 5, 10}}, feasible},
		{api.System{Upper: []int64{9, 9, 9}, Rows: [][]int64{{1, 1, 0}, {0, 1, 1}, {1, 2, 1}}, Right: []int64{5, 5, 11}}, infeasible},
		{api.System{Upper: []int64{9, 9, 9}, Rows: [][]int64{{1, 1, 0}, {0, 1, 1}, {1, 0, 1}}, Right: []int64{1, 1, 1}}, feasible}, // halves
		{api.System{Upper: []int64{api.MaxSummary}, Rows: [][]int64{{1}}, Right: []int64{api.MaxSummary}}, feasible},
		{api.System{Upper: []int64{api.MaxSummary - 1}, Rows: [][]int64{{1}}, Right: []int64{api.MaxSummary}}, infeasible},
		{api.System{Upper: []int64{api.MaxSummary}, Rows: [][]int64{{api.MaxCoef}}, Right: []int64{api.MaxSummary}}, feasible},
		{api.System{Upper: []int64{api.MaxSummary, api.MaxSummary}, Rows: [][]int64{{api.MaxCoef, -api.MaxCoef}}, Right: []int64{-api.MaxSummary}}, feasible},
		{api.System{Upper: []int64{999, api.MaxSummary}, Rows: [][]int64{{api.MaxCoef, -api.MaxCoef}}, Right: []int64{api.MaxSummary}}, infeasible},
	} {
		if got := solve(t, c.s); got != c.want {
			t.Errorf("%v: %s", c.s, got)
		}
	}
}

// known makes the right sides such that the numbers are a solution.
func known(s api.System, x []int64) api.System {
	s.Right = nil
	for _, row := range s.Rows {
		var right int64
		for k, c := range row {
			right += c * x[k]
		}
		s.Right = append(s.Right, right)
	}
	return s
}

// promised makes a system for which Solve must not return ErrLimit.
func promised(r maker) api.System {
	n := 1 + r.IntN(4)
	s := api.System{}
	coefficient, bound := []int64{1, 3, 20}[r.IntN(3)], []int64{1, 10, 1000}[r.IntN(3)]
	var x []int64
	for range n {
		s.Upper = append(s.Upper, r.among(0, bound))
		x = append(x, r.among(0, s.Upper[len(x)]))
	}
	for range 1 + r.IntN(3) {
		var row []int64
		for range n {
			row = append(row, r.among(-coefficient, coefficient))
		}
		s.Rows = append(s.Rows, row)
		s.Right = append(s.Right, r.among(-bound, bound))
	}
	if some := known(s, x); r.IntN(3) > 0 && within(some.Right, -bound, bound) {
		return some
	}
	return s
}

func TestSolveOfPromisedSize(t *testing.T) {
	r := newMaker(4)
	count := map[string]int{}
	for range 50000 {
		s := promised(r)
		if Valid(s) != api.OK {
			t.Fatalf("%v is not valid", s)
		}
		count[solve(t, s)]++
	}
	if count[large] > 0 || count[feasible] < 10000 || count[infeasible] < 10000 {
		t.Errorf("outcomes: %v", count)
	}
}

// All systems with two variables and two rows of small numbers.
func TestSolveOfAllSmallSystems(t *testing.T) {
	count := map[string]int{}
	for code := range 4 * 4 * 4 * 4 * 3 * 3 * 3 * 2 {
		next := func(n int) int64 {
			digit := code % n
			code /= n
			return int64(digit)
		}
		s := api.System{Upper: []int64{1, 0}, Rows: [][]int64{{0, 0}, {0, 0}}, Right: []int64{0, 0}}
		for _, row := range s.Rows {
			row[0], row[1] = next(4)-1, next(4)-1
		}
		s.Upper[1], s.Right[0], s.Right[1] = next(3), next(3)-1, next(3)-1
		s.Upper[0] += next(2)
		count[solve(t, s)]++
	}
	if count[large] > 0 || count[feasible] < 1000 || count[infeasible] < 1000 {
		t.Errorf("outcomes: %v", count)
	}
}

// sparse makes a system with so many coefficients in a row, none of which exceeds the greatest one.
func sparse(r maker, variables, rows, each int, greatest, upper int64) api.System {
	var s api.System
	var x []int64
	for k := range variables {
		s.Upper = append(s.Upper, r.Int64N(upper+1))
		x = append(x, r.Int64N(s.Upper[k]+1))
	}
	for range rows {
		row := make([]int64, variables)
		for range each {
			row[r.IntN(variables)] = r.among(-greatest, greatest)
		}
		s.Rows = append(s.Rows, row)
	}
	return known(s, x)
}

// disturbed adds to one right side.
func disturbed(r maker, s api.System, most int64) api.System {
	i := r.IntN(len(s.Right))
	s.Right[i] = max(-api.MaxSummary, min(api.MaxSummary, s.Right[i]+r.among(-most, most)))
	return s
}

// The determinants of six rows are too small for a fraction that becomes too large.
func TestSolveOfMiddleSize(t *testing.T) {
	r := newMaker(9)
	count := map[string]int{}
	for range 10000 {
		variables, rows := 4+r.IntN(9), 3+r.IntN(4)
		s := sparse(r, variables, rows, variables, 3, 10)
		if r.IntN(2) == 0 {
			s = disturbed(r, s, 20)
		}
		count[solve(t, s)]++
	}
	if count[large] > 0 || count[feasible] < 3000 || count[infeasible] < 1000 {
		t.Errorf("outcomes: %v", count)
	}
}

func TestSolveOfAnySize(t *testing.T) {
	r := newMaker(5)
	count := map[string]int{}
	for range 400 {
		variables, rows := 1+r.IntN(30), 1+r.IntN(20)
		s := sparse(r, variables, rows, 1+r.IntN(variables), []int64{1, 3, 1000, api.MaxCoef}[r.IntN(4)], []int64{1, 20, 1000}[r.IntN(3)])
		if r.IntN(2) == 0 {
			s = disturbed(r, s, 20)
		}
		if Valid(s) == api.OK {
			count[solve(t, s)]++
		}
	}
	if count[large] < 10 || count[feasible] < 100 || count[infeasible] < 50 {
		t.Errorf("outcomes: %v", count)
	}
}

// In each row the coefficients are 1 for variables that follow each other, and else 0: all fractions of a tableau of such a system are -1, 0 or 1, and none becomes too large.
func TestSolveOfIntervals(t *testing.T) {
	r := newMaker(6)
	count := map[string]int{}
	for range 20 {
		var s api.System
		var x []int64
		for k := range api.MaxVars {
			s.Upper = append(s.Upper, r.among(0, 1000000))
			x = append(x, r.among(0, s.Upper[k]))
		}
		for range api.MaxCons {
			row := make([]int64, api.MaxVars)
			a, b := r.IntN(api.MaxVars), r.IntN(api.MaxVars)
			for k := min(a, b); k <= max(a, b); k++ {
				row[k] = 1
			}
			s.Rows = append(s.Rows, row)
		}
		s = known(s, x)
		if r.IntN(2) == 0 {
			s = disturbed(r, s, 1000000)
		}
		count[solve(t, s)]++
	}
	if count[large] > 0 || count[feasible] < 5 || count[infeasible] < 3 {
		t.Errorf("outcomes: %v", count)
	}
}

// chain makes each variable a small part of the one before, and the first one a part of 1.
func chain(n int) api.System {
	var s api.System
	for i := range n {
		row := make([]int64, n)
		row[i] = 999983 - 4*int64(i)
		if i > 0 {
			row[i-1] = -1
		}
		s.Upper = append(s.Upper, 1)
		s.Rows = append(s.Rows, row)
		s.Right = append(s.Right, 0)
	}
	s.Right[0] = 1
	return s
}

// The only solution of the longer chain is no list of valid fractions.
func TestSolveBeyondTheLimit(t *testing.T) {
	if got := solve(t, chain(2)); got != feasible {
		t.Errorf("two: %s", got)
	}
	for n := 3; n < 20; n++ {
		if got := solve(t, chain(n)); got != large {
			t.Errorf("%d: %s", n, got)
		}
	}
}

// What goes beyond the limit on the way only is no reason to give up: the variables have small values where all rows arrive, but the products from which a tableau is computed are greater than MaxFrac.
func TestSolveWithinTheLimit(t *testing.T) {
	r := newMaker(7)
	for range 200 {
		var x []int64
		s := api.System{}
		for range 3 {
			s.Upper = append(s.Upper, 1000)
			x = append(x, r.Int64N(1001))
			s.Rows = append(s.Rows, []int64{r.Int64N(100000), r.Int64N(100000), r.Int64N(100000)})
		}
		if got := solve(t, known(s, x)); got != feasible {
			t.Errorf("%v: %s", s, got)
		}
	}
}

// On each of these the search would go round in a circle of moves that change nothing, if it preferred other variables.
func TestSolveGoesNotRoundInACircle(t *testing.T) {
	for _, rows := range [][][]int64{
		// if always those with the greatest gain moved
		{{0, 0, 0, -3, -2, -4, -1}, {1, 0, 0, -2, -2, 3, 2}, {0, 1, 0, 2, 2, -2, 4}, {0, 0, 1, 4, -4, 0, 3}},
		{{0, 0, 0, -5, -3, -9, 3}, {1, 0, 0, -5, -5, 3, -2}, {0, 1, 0, 4, -4, 0, -1}, {0, 0, 1, -5, 5, -3, -5}},
		{{0, 0, 0, -24, -21, -6, 1}, {1, 0, 0, -6, 6, -8, 9}, {0, 1, 0, 0, -5, -7, 6}, {0, 0, 1, -5, -7, 4, 8}},
		{{0, 0, 0, -6, -6, 2, -9, -9}, {2, 0, 0, 0, -1, -1, -2, 6}, {0, 2, 0, 10, 4, -6, -4, -4}, {0, 0, 2, -4, 10, -5, 5, 2}},
		{{0, 0, 0, -1, -4, -9, -15, -2, -1}, {1, 0, 0, -2, -2, 3, 6, -2, 2}, {0, 1, 0, 2, -7, 4, -2, -4, 4}, {0, 0, 1, -2, 7, -2, -4, 1, 5}},
		// if of those that stop at the same time the first row mattered
		{{0, 0, 0, 5, 3, -1, -6, -8}, {23, 0, 0, 1, 5, 4, -5, -5}, {0, 23, 0, 4, -5, 7, -5, 4}, {0, 0, 23, 4, -1, 5, -3, 7}},
		{{0, 0, 12, 5, 3, -9, -12, -3}, {37, 0, 2, 4, 5, -3, -1, -4}, {0, 37, 4, 4, -1, -1, -3, -1}},
		{{0, 0, 0, 4, 6, -3, -9, 5}, {12, 0, 0, 6, 3, -4, 2, 4}, {0, 12, 0, -5, 4, -4, -2, 6}, {0, 0, 12, -2, 6, -3, -6, -2}},
		// if the greatest number did
		{{0, 0, 0, 0, 4, 12, -6}, {28, 0, 0, -2, 1, 5, -6}, {0, 28, 0, 10, -4, 8, -1}, {0, 0, 28, 6, 1, -5, 6}},
		{{0, 0, -15, -6, -6, 3, 12, 24}, {39, 0, -7, -6, -7, 7, 5, 2}, {0, 39, -6, 0, -4, -4, 5, 7}},
		{{0, 0, -5, 3, 9, 3, 6, 0}, {40, 0, 3, 7, 8, 2, 0, -1}, {0, 40, 8, 2, -3, 9, 8, 9}},
	} {
		s := api.System{Rows: rows, Right: []int64{1000, 0, 0, 0}[:len(rows)]}
		for range rows[0] {
			s.Upper = append(s.Upper, 1000)
		}
		if solve(t, s) == large {
			t.Errorf("%v: too large", s)
		}
	}
}

func TestSolveTwice(t *testing.T) {
	r := newMaker(8)
	for range 500 {
		s := promised(r)
		x, m, err := Solve(s)
		y, n, e := Solve(clone(s))
		if !slices.Equal(x, y) || !slices.Equal(m, n) || err != e {
			t.Fatalf("%v: %v, %v, %d and %v, %v, %d", s, x, m, err, y, n, e)
		}
	}
}

func TestExamplesOfTheReadme(t *testing.T) {
	s := api.System{Upper: []int64{2, 2}, Rows: [][]int64{{1, 1}}, Right: []int64{5}}
	if x, m, err := Solve(s); len(x) > 0 || !slices.Equal(m, ints(1)) || err != api.OK {
		t.Errorf("%v, %v, %d", x, m, err)
	}
	s.Right[0] = 3
	if x, m, err := Solve(s); !slices.Equal(x, ints(2, 1)) || len(m) > 0 || err != api.OK {
		t.Errorf("%v, %v, %d", x, m, err)
	}
}
