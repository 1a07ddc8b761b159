package linear

import (
	"math"
	"slices"
	"testing"

	"querylab/api"
)

// checkBounds checks CheckBounds with bounds and multipliers that are of the right length and within their limits.
func checkBounds(t *testing.T, s api.System, lower, upper []int64, m []api.Frac, want bool) {
	t.Helper()
	if refuted(s, lower, upper, m) != want {
		t.Errorf("%v, %v to %v, %v: the case is wrong", s, lower, upper, m)
	}
	if got := CheckBounds(s, lower, upper, m); got != want {
		t.Errorf("%v, %v to %v, %v: %v", s, lower, upper, m, got)
	}
}

func TestCheckBoundsCases(t *testing.T) {
	half, minus := []api.Frac{frac(1, 2), frac(1, 2)}, []api.Frac{frac(-1, 2), frac(-1, 2)} // x = 7/2 and -x = -7/2
	for _, c := range []struct {
		lower, upper []int64
		m            []api.Frac
		want         bool
	}{
		{[]int64{0, 0}, []int64{2, 2}, ints(1, 0), true},
		{[]int64{0, 0}, []int64{2, 3}, ints(1, 0), false},
		{[]int64{0, 0}, []int64{2, 2}, ints(-7, 0), true},
		{[]int64{0, 0}, []int64{2, 3}, ints(-7, 0), false},
		{[]int64{3, 3}, []int64{9, 9}, ints(1, 0), true},
		{[]int64{3, 2}, []int64{9, 9}, ints(1, 0), false},
		{[]int64{3, 3}, []int64{9, 9}, ints(-1, 0), true},
		{[]int64{0, 0}, []int64{1, 9}, ints(0, 1), true},
		{[]int64{0, 0}, []int64{2, 9}, ints(0, 1), false},
		{[]int64{0, 7}, []int64{9, 9}, ints(0, 1), false},
		{[]int64{0, 8}, []int64{9, 9}, ints(0, 1), true},
		{[]int64{-9, -2}, []int64{-1, 9}, ints(0, 1), true},
		{[]int64{-9, -3}, []int64{-1, 9}, ints(0, 1), false},
		{[]int64{0, 0}, []int64{3, 9}, half, true},
		{[]int64{0, 0}, []int64{4, 9}, half, false},
		{[]int64{4, 0}, []int64{9, 9}, half, true},
		{[]int64{3, 0}, []int64{9, 9}, half, false},
		{[]int64{0, 0}, []int64{3, 9}, minus, true},
		{[]int64{0, 0}, []int64{4, 9}, minus, false},
		{[]int64{4, 0}, []int64{9, 9}, minus, true},
		{[]int64{3, 0}, []int64{9, 9}, minus, false},
		{[]int64{0, 0}, []int64{0, 0}, ints(0, 0), false},
		{[]int64{0, 2}, []int64{9, 1}, ints(0, 0), true},
		{[]int64{1, 0}, []int64{0, 9}, ints(0, 0), true},
		{[]int64{3, 2}, []int64{3, 2}, ints(0, 0), false},
		{[]int64{3, 2}, []int64{3, 2}, ints(1, 0), false},
		{[]int64{3, 2}, []int64{3, 2}, ints(0, 1), true},
		{[]int64{-api.MaxSummary, api.MaxSummary}, []int64{-api.MaxSummary, api.MaxSummary}, ints(1, 0), true},
		{[]int64{-api.MaxSummary, api.MaxSummary}, []int64{5 - api.MaxSummary, api.MaxSummary}, ints(1, 0), false},
		{[]int64{api.MaxSummary, 0}, []int64{-api.MaxSummary, 0}, ints(0, 0), true},
	} {
		checkBounds(t, pair(), c.lower, c.upper, c.m, c.want)
	}
	checkBounds(t, api.System{}, nil, nil, nil, false)
	checkBounds(t, api.System{Upper: []int64{1}}, []int64{0}, []int64{1}, nil, false)
	checkBounds(t, api.System{Upper: []int64{1}}, []int64{2}, []int64{1}, nil, true)
	for right := int64(-1); right <= 1; right++ {
		empty := api.System{Rows: [][]int64{{}}, Right: []int64{right}}
		checkBounds(t, empty, nil, nil, ints(1), right != 0)
		checkBounds(t, empty, nil, nil, ints(0), false)
	}
}

// The other arguments are such that they would be a proof.
func TestBoundsThatAreNone(t *testing.T) {
	lower, upper, m := []int64{0, 1}, []int64{2, 2}, ints(1, 0)
	checkBounds(t, pair(), lower, upper, m, true)
	for _, l := range [][]int64{nil, {0}, {0, 1, 0}, {3}, {3, 3, 3}} {
		if CheckBounds(pair(), l, upper, m) || CheckBounds(pair(), lower, l, m) || CheckBounds(pair(), l, l, m) {
			t.Errorf("%v are bounds of two variables", l)
		}
	}
	for _, n := range []int64{api.MaxSummary + 1, -api.MaxSummary - 1, math.MaxInt64, math.MinInt64} {
		for k := range lower {
			for _, b := range []int64{0, n} {
				l, u := slices.Clone(lower), slices.Clone(upper)
				l[k], u[k] = n, b
				if CheckBounds(pair(), l, upper, m) || CheckBounds(pair(), lower, l, m) || CheckBounds(pair(), l, u, m) || CheckBounds(pair(), u, l, m) {
					t.Errorf("%d is a bound", n)
				}
			}
		}
	}
}

// narrow returns a system whose combination by the multipliers a, b, r is a x + b y = r.
func narrow(a, b, r api.Frac) (api.System, []api.Frac) {
	return api.System{Upper: []int64{1, 1}, Rows: [][]int64{{1, 0}, {0, 1}, {0, 0}}, Right: []int64{0, 0, 1}}, []api.Frac{a, b, r}
}

// The sums have denominators of more than 100 bits, and differ from the right side by less than 2^-100.
func TestCheckBoundsIsExact(t *testing.T) {
	for _, c := range []struct {
		a, b, r api.Frac
		x       int64
		want    bool
	}{
		{frac(1, prime), frac(-1, prime), frac(0, 1), api.MaxSummary, false},
		{frac(1, prime), frac(-1, prime+1), frac(0, 1), api.MaxSummary, true},
		{frac(1, prime), frac(-1, other), frac(0, 1), 1, true},
		{frac(1, prime), frac(1, most), frac(2, most-1), 1, true},
		{frac(1, most-1), frac(1, most-3), frac(1, most/2-1), 1, true}, // the harmonic mean is below the mean
		{frac(1, most-1), frac(1, most-1), frac(2, most-1), 1, false},
		{frac(most, 1), frac(-most, 1), frac(0, 1), api.MaxSummary, false},
		{frac(most, 1), frac(1-most, 1), frac(api.MaxSummary, 1), api.MaxSummary, false},
		{frac(most, 1), frac(1-most, 1), frac(api.MaxSummary+1, 1), api.MaxSummary, true},
		{frac(most, 1), frac(1-most, 1), frac(api.MaxSummary-1, 1), api.MaxSummary, true},
		{frac(most, 1), frac(most, 1), frac(most, 1), api.MaxSummary, true},
	} {
		s, m := narrow(c.a, c.b, c.r)
		x := []int64{c.x, c.x}
		checkBounds(t, s, x, x, m, c.want)
		for k := range m {
			m[k] = negative(m[k])
		}
		checkBounds(t, s, x, x, m, c.want)
	}
}

// Each variable has a denominator of its own, so that the sum has one of more than 5000 bits, and is just 0 or just not.
func TestCheckBoundsWithAllVariables(t *testing.T) {
	s := api.System{Upper: make([]int64, api.MaxVars)}
	var m []api.Frac
	var x []int64
	for i := range api.MaxCons {
		row := make([]int64, api.MaxVars)
		row[i], row[api.MaxVars-1-i] = 1, -1
		s.Rows = append(s.Rows, row)
		s.Right = append(s.Right, 0)
		m = append(m, frac(1, most-int64(i)))
	}
	for k := range api.MaxVars {
		x = append(x, int64(min(k, api.MaxVars-1-k))+api.MaxSummary/2)
	}
	checkBounds(t, s, x, x, m, false)
	for _, k := range []int{0, 57, api.MaxVars - 1} {
		y := slices.Clone(x)
		y[k]++
		checkBounds(t, s, y, y, m, true)
		checkBounds(t, s, x, y, m, false)
		checkBounds(t, s, y, x, m, true)
	}
}

func TestArgumentsStay(t *testing.T) {
	s, m := pair(), []api.Frac{frac(1, 2), frac(-3, 4)}
	lower, upper, x := []int64{-1, 1}, []int64{7, 2}, []api.Frac{frac(7, 2), frac(3, 2)}
	CheckBounds(s, lower, upper, m)
	CheckLattice(s, m)
	CheckSolution(s, x)
	got, _, _ := Combine(s, m)
	want := slices.Clone(got)
	if !same(s, pair()) || !slices.Equal(m, []api.Frac{frac(1, 2), frac(-3, 4)}) || !slices.Equal(x, []api.Frac{frac(7, 2), frac(3, 2)}) {
		t.Error("a system or its fractions have changed")
	}
	if !slices.Equal(lower, []int64{-1, 1}) || !slices.Equal(upper, []int64{7, 2}) {
		t.Error("bounds have changed")
	}
	m[0], s.Rows[0][0] = frac(5, 1), 9
	if !slices.Equal(got, want) {
		t.Error("a combination changes with its arguments")
	}
}
