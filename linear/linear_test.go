package linear

import (
	"math"
	"slices"
	"testing"

	"querylab/api"
)

const most = api.MaxFrac

// Two primes just below the greatest denominator.
const (
	prime = most - 3
	other = most - 23
)

func frac(num, den int64) api.Frac {
	return api.Frac{Num: num, Den: den}
}

func ints(l ...int64) []api.Frac {
	return wholes(l)
}

// pair is x + y = 5, x - y = 2 with x at most 4, y at most 2.
func pair() api.System {
	return api.System{Upper: []int64{4, 2}, Rows: [][]int64{{1, 1}, {1, -1}}, Right: []int64{5, 2}}
}

// great has as many variables and rows as there can be.
func great() api.System {
	s := api.System{Upper: make([]int64, api.MaxVars), Right: make([]int64, api.MaxCons)}
	for range api.MaxCons {
		s.Rows = append(s.Rows, make([]int64, api.MaxVars))
	}
	return s
}

// fault is something that makes a system invalid.
type fault func(s *api.System)

func beyond() []fault {
	var l []fault
	for _, n := range []int64{api.MaxCoef + 1, -api.MaxCoef - 1, math.MaxInt64, math.MinInt64, 1 << 32, 1<<63 - api.MaxCoef} {
		l = append(l, func(s *api.System) { s.Rows[0][0] = n }, func(s *api.System) { last := s.Rows[len(s.Rows)-1]; last[len(last)-1] = n })
	}
	for _, n := range []int64{api.MaxSummary + 1, -api.MaxSummary - 1, math.MaxInt64, math.MinInt64, 1 << 32, -1 << 32} {
		l = append(l, func(s *api.System) { s.Right[0] = n }, func(s *api.System) { s.Right[len(s.Right)-1] = n })
	}
	for _, n := range []int64{api.MaxSummary + 1, -1, math.MaxInt64, math.MinInt64, 1 << 32, -api.MaxSummary} {
		l = append(l, func(s *api.System) { s.Upper[0] = n }, func(s *api.System) { s.Upper[len(s.Upper)-1] = n })
	}
	return append(l,
		func(s *api.System) { *s = great(); s.Upper = append(s.Upper, 0) },
		func(s *api.System) { *s = great(); s.Rows = append(s.Rows, s.Rows[0]) },
		func(s *api.System) {
			*s = great()
			s.Upper = append(s.Upper, 0)
			for i := range s.Rows {
				s.Rows[i] = append(s.Rows[i], 0)
			}
		},
		func(s *api.System) { *s = great(); s.Rows = append(s.Rows, s.Rows[0]); s.Right = append(s.Right, 0) },
	)
}

func misfits() []fault {
	return []fault{
		func(s *api.System) { s.Rows[0] = append(s.Rows[0], 0) },
		func(s *api.System) { s.Rows[1] = append(s.Rows[1], 1) },
		func(s *api.System) { s.Rows[0] = s.Rows[0][1:] },
		func(s *api.System) { s.Rows[1] = s.Rows[1][1:] },
		func(s *api.System) { s.Rows[0], s.Rows[1] = append(s.Rows[0], 0), s.Rows[1][1:] },
		func(s *api.System) { s.Right = append(s.Right, 0) },
		func(s *api.System) { s.Right = append(s.Right, make([]int64, api.MaxCons)...) },
		func(s *api.System) { s.Right = s.Right[1:] },
		func(s *api.System) { s.Rows = append(s.Rows, s.Rows[0]) },
		func(s *api.System) { s.Rows = s.Rows[1:] },
		func(s *api.System) { s.Upper = append(s.Upper, 1) },
		func(s *api.System) { s.Upper = s.Upper[1:] },
	}
}

// checkInvalid checks all functions with a system that is not valid.
func checkInvalid(t *testing.T, s api.System, want api.Errno) {
	t.Helper()
	if got := Valid(s); got != want {
		t.Errorf("%v: Valid is %d", s, got)
	}
	for _, m := range [][]api.Frac{nil, ints(make([]int64, len(s.Rows))...), {frac(2, 2)}} {
		if c, right, err := Combine(s, m); len(c) > 0 || right != frac(0, 0) || err != want {
			t.Errorf("%v: Combine is %v, %v, %d", s, c, right, err)
		}
		if CheckBounds(s, zeros(s), s.Upper, m) || CheckLattice(s, m) {
			t.Errorf("%v: %v is a proof", s, m)
		}
	}
	if x, m, err := Solve(s); len(x) > 0 || len(m) > 0 || err != want {
		t.Errorf("%v: Solve is %v, %v, %d", s, x, m, err)
	}
	for _, x := range [][]api.Frac{nil, ints(zeros(s)...)} {
		if CheckSolution(s, x) {
			t.Errorf("%v: %v is a solution", s, x)
		}
	}
}

func TestInvalidSystems(t *testing.T) {
	for _, limit := range beyond() {
		s := pair()
		limit(&s)
		checkInvalid(t, s, api.ErrLimit)
		for _, misfit := range misfits() {
			s := pair()
			misfit(&s)
			limit(&s)
			if got := Valid(s); got != api.ErrLimit {
				t.Errorf("%v: Valid is %d", s, got)
			}
		}
	}
	for _, misfit := range misfits() {
		s := pair()
		misfit(&s)
		checkInvalid(t, s, api.ErrArity)
	}
	s := great()
	s.Right = append(s.Right, 0)
	checkInvalid(t, s, api.ErrArity)
	checkInvalid(t, api.System{Rows: [][]int64{{}}}, api.ErrArity)
	checkInvalid(t, api.System{Right: []int64{0}}, api.ErrArity)
}

func TestValidSystems(t *testing.T) {
	edge := api.System{
		Upper: []int64{0, api.MaxSummary, 1},
		Rows:  [][]int64{{api.MaxCoef, -api.MaxCoef, 0}, {-api.MaxCoef, 1, api.MaxCoef}},
		Right: []int64{api.MaxSummary, -api.MaxSummary},
	}
	for _, s := range []api.System{
		{}, {Upper: []int64{}, Rows: [][]int64{}, Right: []int64{}}, pair(), great(), edge,
		{Upper: []int64{3}}, {Upper: make([]int64, api.MaxVars)},
		{Rows: [][]int64{nil, {}}, Right: []int64{1, 0}}, {Rows: make([][]int64, api.MaxCons), Right: make([]int64, api.MaxCons)},
	} {
		if got := Valid(s); got != api.OK {
			t.Errorf("%v: %d", s, got)
		}
	}
}

func TestCombineCases(t *testing.T) {
	unlike := api.System{Upper: []int64{1, 1}, Rows: [][]int64{{1, 0}, {1, 0}, {0, 1}}, Right: []int64{1, -1, 1}}
	edge := api.System{Upper: []int64{1}, Rows: [][]int64{{api.MaxCoef}, {-api.MaxCoef}}, Right: []int64{api.MaxSummary, -api.MaxSummary}}
	for _, c := range []struct {
		s     api.System
		m     []api.Frac
		want  []api.Frac
		right api.Frac
	}{
		{api.System{}, nil, nil, frac(0, 1)},
		{api.System{Upper: []int64{1, 2}}, nil, ints(0, 0), frac(0, 1)},
		{api.System{Rows: [][]int64{{}}, Right: []int64{4}}, []api.Frac{frac(-1, 6)}, nil, frac(-2, 3)},
		{pair(), ints(0, 0), ints(0, 0), frac(0, 1)},
		{pair(), ints(1, 0), ints(1, 1), frac(5, 1)},
		{pair(), ints(2, -3), ints(-1, 5), frac(4, 1)},
		{pair(), []api.Frac{frac(1, 2), frac(1, 2)}, ints(1, 0), frac(7, 2)},
		{pair(), []api.Frac{frac(1, 2), frac(-1, 3)}, []api.Frac{frac(1, 6), frac(5, 6)}, frac(11, 6)},
		{pair(), []api.Frac{frac(1, most), frac(-1, most)}, []api.Frac{frac(0, 1), frac(1, most/2)}, frac(3, most)},
		// what is too large on the way
		{unlike, ints(most, most, 0), nil, frac(0, 0)},
		{unlike, ints(most, -most, -most), ints(0, -most), frac(most, 1)},
		{unlike, ints(most, -most, 1-most), nil, frac(0, 0)},
		{unlike, []api.Frac{frac(1, prime), frac(-1, prime), frac(1-most, most)}, nil, frac(0, 0)},
		{unlike, []api.Frac{frac(1, prime), frac(1, other), frac(0, 1)}, nil, frac(0, 0)},
		{unlike, []api.Frac{frac(1, prime), frac(-1, prime), frac(1, other)}, nil, frac(0, 0)},
		{unlike, []api.Frac{frac(1, prime), frac(1, prime), frac(1, other)}, []api.Frac{frac(2, prime), frac(1, other)}, frac(1, other)},
		{unlike, ints(most, 0, -1), []api.Frac{frac(most, 1), frac(-1, 1)}, frac(most-1, 1)},
		{unlike, ints(most, 0, 1), nil, frac(0, 0)},
		{unlike, ints(-most, 1, most), []api.Frac{frac(1-most, 1), frac(most, 1)}, frac(-1, 1)},
		{edge, ints(most, most), ints(0), frac(0, 1)},
		{edge, ints(most, most-1), ints(api.MaxCoef), frac(api.MaxSummary, 1)},
		{edge, ints(most, most-2*most/api.MaxSummary), nil, frac(0, 0)},
		{edge, []api.Frac{frac(most, most-1), frac(1, 1)}, []api.Frac{frac(api.MaxCoef, most-1)}, frac(api.MaxSummary, most-1)},
		{edge, []api.Frac{frac(1, most), frac(0, 1)}, []api.Frac{frac(1, most/api.MaxCoef)}, frac(1, most/api.MaxSummary)},
		{edge, ints(-most/api.MaxSummary, 0), ints(-most / (api.MaxSummary / api.MaxCoef)), frac(-most, 1)},
		{edge, ints(most/api.MaxSummary+1, 0), nil, frac(0, 0)},
	} {
		err := api.OK
		if c.right == frac(0, 0) {
			err = api.ErrLimit
		}
		got, right, e := Combine(c.s, c.m)
		if !slices.Equal(got, c.want) || right != c.right || e != err {
			t.Errorf("%v times %v is %v, %v, %d", c.s.Rows, c.m, got, right, e)
		}
		if want, _, e := combined(c.s, c.m); !slices.Equal(want, c.want) || e != err {
			t.Errorf("%v times %v should be %v, %d", c.s.Rows, c.m, want, e)
		}
	}
}

func invalid() []api.Frac {
	return []api.Frac{{}, frac(1, 0), frac(1, -1), frac(0, 2), frac(2, 4), frac(-3, 3), frac(most+1, 1), frac(-most-1, 1), frac(1, most+1), frac(math.MinInt64, 1), frac(1, math.MinInt64)}
}

func TestErrorsOfCombine(t *testing.T) {
	wrong := [][]api.Frac{nil, ints(1), ints(1, 1, 1), {{}}, {frac(2, 2), {}, {}}, ints(most), ints(most, most, most)}
	for _, m := range wrong {
		checkMultipliers(t, m, api.ErrArity)
	}
	for _, f := range invalid() {
		checkMultipliers(t, []api.Frac{f, frac(1, 1)}, api.ErrInvalid)
		checkMultipliers(t, []api.Frac{frac(0, 1), f}, api.ErrInvalid)
		checkMultipliers(t, []api.Frac{frac(most, 1), f}, api.ErrInvalid)
	}
	checkMultipliers(t, ints(most, 0), api.ErrLimit)
	checkMultipliers(t, ints(0, -most), api.ErrLimit)
	checkMultipliers(t, []api.Frac{frac(1, prime), frac(1, other)}, api.ErrLimit)
}

// checkMultipliers checks what Combine, and those that build on it, say of multipliers for pair that are wrong. Of bounds that no numbers satisfy they would be a proof otherwise.
func checkMultipliers(t *testing.T, m []api.Frac, want api.Errno) {
	t.Helper()
	if c, right, err := Combine(pair(), m); len(c) > 0 || right != frac(0, 0) || err != want {
		t.Errorf("%v: %v, %v, %d", m, c, right, err)
	}
	if CheckLattice(pair(), m) || CheckBounds(pair(), []int64{1, 1}, []int64{0, 0}, m) || CheckBounds(pair(), []int64{0, 0}, []int64{0, 0}, m) {
		t.Errorf("%v is a proof", m)
	}
}

func TestCheckSolutionCases(t *testing.T) {
	none := api.System{Upper: []int64{0, 3}}
	triple := api.System{Upper: []int64{5, 5, 5}, Rows: [][]int64{{3, 0, 0}, {0, 7, -1}, {1, 1, 1}}, Right: []int64{1, 0, 3}}
	for _, c := range []struct {
		s    api.System
		x    []api.Frac
		want bool
	}{
		{pair(), []api.Frac{frac(7, 2), frac(3, 2)}, true},
		{pair(), []api.Frac{frac(14, 4), frac(3, 2)}, false},
		{pair(), []api.Frac{frac(7, 2), {}}, false},
		{pair(), ints(3, 2), false},
		{pair(), ints(4, 1), false},
		{pair(), ints(4, 2), false},
		{pair(), []api.Frac{frac(7, 2)}, false},
		{pair(), []api.Frac{frac(7, 2), frac(3, 2), frac(0, 1)}, false},
		{pair(), nil, false},
		{api.System{}, nil, true},
		{api.System{}, ints(0), false},
		{none, ints(0, 0), true},
		{none, ints(0, 3), true},
		{none, []api.Frac{frac(0, 1), frac(3*prime-1, prime)}, false}, // less than 3, but not valid
		{none, []api.Frac{frac(0, 1), frac(299999999999999, 100000000000000)}, true},
		{none, []api.Frac{frac(0, 1), frac(300000000000001, 100000000000000)}, false},
		{none, ints(0, 4), false},
		{none, ints(1, 3), false},
		{none, []api.Frac{frac(0, 1), frac(-1, most)}, false},
		{none, []api.Frac{frac(1, most), frac(0, 1)}, false},
		{triple, []api.Frac{frac(1, 3), frac(1, 3), frac(7, 3)}, true},
		{triple, []api.Frac{frac(1, 3), frac(1, 3), frac(2, 1)}, false},
		{api.System{Rows: [][]int64{{}}, Right: []int64{0}}, nil, true},
		{api.System{Rows: [][]int64{{}}, Right: []int64{1}}, nil, false},
		{api.System{Rows: [][]int64{{}, {}}, Right: []int64{0, -1}}, nil, false},
	} {
		if got := CheckSolution(c.s, c.x); got != c.want {
			t.Errorf("%v, %v: %v", c.s, c.x, got)
		}
	}
}

// The sums have denominators beyond 2^128 before the last numbers are added.
func TestCheckSolutionIsExact(t *testing.T) {
	x := []api.Frac{frac(1, prime), frac(1, other), frac(1, most), frac(1, prime), frac(1, other), frac(1, most)}
	s := api.System{Upper: []int64{1, 1, 1, 1, 1, 1}, Rows: [][]int64{{1, 1, 1, -1, -1, -1}}, Right: []int64{0}}
	if !CheckSolution(s, x) {
		t.Error("a solution is refused")
	}
	for k := range x {
		for _, f := range []api.Frac{frac(0, 1), frac(1, most-1), frac(2, prime), frac(1, 1)} {
			y := slices.Clone(x)
			y[k] = f
			if CheckSolution(s, y) {
				t.Errorf("%v is a solution", y)
			}
		}
	}
	s.Rows[0] = []int64{api.MaxCoef, 0, 0, -api.MaxCoef, 0, 0}
	if !CheckSolution(s, x) {
		t.Error("a solution is refused")
	}
	s.Right[0] = 1
	if CheckSolution(s, x) {
		t.Error("0 is 1")
	}
}

func TestCheckLatticeCases(t *testing.T) {
	double := api.System{Upper: []int64{5}, Rows: [][]int64{{2}}, Right: []int64{3}}
	triple := api.System{Upper: []int64{9, 9}, Rows: [][]int64{{3, 6}, {2, 0}}, Right: []int64{4, 2}}
	for _, c := range []struct {
		s    api.System
		m    []api.Frac
		want bool
	}{
		{double, []api.Frac{frac(1, 2)}, true},
		{double, []api.Frac{frac(-1, 2)}, true},
		{double, []api.Frac{frac(5, 2)}, true},
		{double, []api.Frac{frac(1, 4)}, false},
		{double, []api.Frac{frac(1, 3)}, false},
		{double, ints(1), false},
		{double, ints(0), false},
		{triple, []api.Frac{frac(1, 3), frac(0, 1)}, true},
		{triple, []api.Frac{frac(1, 3), frac(1, 2)}, true},
		{triple, []api.Frac{frac(1, 6), frac(1, 4)}, true}, // whole only together
		{triple, []api.Frac{frac(1, 6), frac(1, 2)}, false},
		{triple, []api.Frac{frac(0, 1), frac(1, 2)}, false},
		{triple, []api.Frac{frac(1, 2), frac(0, 1)}, false},
		{pair(), []api.Frac{frac(1, 2), frac(1, 2)}, true},
		{pair(), []api.Frac{frac(1, 2), frac(0, 1)}, false},
		{pair(), ints(1, 1), false},
		{api.System{}, nil, false},
		{api.System{Rows: [][]int64{{}}, Right: []int64{1}}, []api.Frac{frac(1, 2)}, true},
		{api.System{Rows: [][]int64{{}}, Right: []int64{2}}, []api.Frac{frac(1, 2)}, false},
		{api.System{Rows: [][]int64{{}}, Right: []int64{1}}, []api.Frac{frac(1, most)}, true},
	} {
		if c.want != latticed(c.s, c.m) {
			t.Errorf("%v, %v: the case is wrong", c.s, c.m)
		}
		if got := CheckLattice(c.s, c.m); got != c.want {
			t.Errorf("%v, %v: %v", c.s, c.m, got)
		}
	}
}
