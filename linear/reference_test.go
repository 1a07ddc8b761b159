package linear

import (
	"math/big"
	"slices"
	"testing"

	"querylab/api"
	"querylab/fraction"
)

// The references say with numbers of any size what the chapter says of the functions.

func rational(f api.Frac) *big.Rat {
	return big.NewRat(f.Num, f.Den)
}

func ratioOf(n int64) *big.Rat {
	return new(big.Rat).SetInt64(n)
}

// lowest returns a number as a fraction, if it is a valid one.
func lowest(r *big.Rat) (api.Frac, bool) {
	limit := big.NewInt(api.MaxFrac)
	if r.Num().CmpAbs(limit) > 0 || r.Denom().Cmp(limit) > 0 {
		return api.Frac{}, false
	}
	return api.Frac{Num: r.Num().Int64(), Den: r.Denom().Int64()}, true
}

func dot(numbers []int64, fractions []api.Frac) *big.Rat {
	all := new(big.Rat)
	for k, n := range numbers {
		all.Add(all, new(big.Rat).Mul(ratioOf(n), rational(fractions[k])))
	}
	return all
}

// combined is for a valid system and as many valid multipliers as it has rows.
func combined(s api.System, m []api.Frac) ([]api.Frac, api.Frac, api.Errno) {
	right, ok := lowest(dot(s.Right, m))
	if !ok {
		return nil, api.Frac{}, api.ErrLimit
	}
	var all []api.Frac
	for k := range s.Upper {
		var l []int64
		for _, row := range s.Rows {
			l = append(l, row[k])
		}
		c, ok := lowest(dot(l, m))
		if !ok {
			return nil, api.Frac{}, api.ErrLimit
		}
		all = append(all, c)
	}
	return all, right, api.OK
}

// refuted says whether no numbers between the bounds satisfy a combination.
func refuted(s api.System, lower, upper []int64, m []api.Frac) bool {
	coefficients, right, err := combined(s, m)
	if err != api.OK {
		return false
	}
	least, greatest := new(big.Rat), new(big.Rat)
	for k, c := range coefficients {
		if lower[k] > upper[k] {
			return true
		}
		a := new(big.Rat).Mul(rational(c), ratioOf(lower[k]))
		b := new(big.Rat).Mul(rational(c), ratioOf(upper[k]))
		if a.Cmp(b) > 0 {
			a, b = b, a
		}
		least.Add(least, a)
		greatest.Add(greatest, b)
	}
	return least.Cmp(rational(right)) > 0 || greatest.Cmp(rational(right)) < 0
}

func latticed(s api.System, m []api.Frac) bool {
	coefficients, right, err := combined(s, m)
	if err != api.OK || rational(right).IsInt() {
		return false
	}
	return !slices.ContainsFunc(coefficients, func(c api.Frac) bool { return !rational(c).IsInt() })
}

func satisfied(s api.System, x []api.Frac) bool {
	if len(x) != len(s.Upper) {
		return false
	}
	for k, f := range x {
		if !fraction.Valid(f) || rational(f).Sign() < 0 || rational(f).Cmp(ratioOf(s.Upper[k])) > 0 {
			return false
		}
	}
	for i, row := range s.Rows {
		if dot(row, x).Cmp(ratioOf(s.Right[i])) != 0 {
			return false
		}
	}
	return true
}

// The outcomes of Solve.
const (
	feasible   = "feasible"
	infeasible = "infeasible"
	large      = "large"
)

// solve returns the outcome of Solve for a valid system, and checks what it returns.
func solve(t *testing.T, s api.System) string {
	t.Helper()
	before := clone(s)
	x, m, err := Solve(s)
	if !same(s, before) {
		t.Fatalf("%v: changed", before)
	}
	switch {
	case err == api.ErrLimit && len(x) == 0 && len(m) == 0:
		return large
	case err == api.OK && len(m) == 0 && satisfied(s, x):
		if !CheckSolution(s, x) {
			t.Fatalf("%v: %v is a solution", s, x)
		}
		return feasible
	case err == api.OK && len(x) == 0 && len(m) == len(s.Rows) && allValid(m) && refuted(s, zeros(s), s.Upper, m):
		if !CheckBounds(s, zeros(s), s.Upper, m) {
			t.Fatalf("%v: %v is a proof", s, m)
		}
		return infeasible
	}
	t.Fatalf("%v: %v, %v, %d", s, x, m, err)
	return ""
}

func zeros(s api.System) []int64 {
	return make([]int64, len(s.Upper))
}

func clone(s api.System) api.System {
	c := api.System{Upper: slices.Clone(s.Upper), Right: slices.Clone(s.Right)}
	for _, row := range s.Rows {
		c.Rows = append(c.Rows, slices.Clone(row))
	}
	return c
}

func same(a, b api.System) bool {
	return slices.Equal(a.Upper, b.Upper) && slices.Equal(a.Right, b.Right) && slices.EqualFunc(a.Rows, b.Rows, slices.Equal)
}
