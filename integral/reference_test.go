package integral

import (
	"math/rand/v2"
	"reflect"
	"slices"
	"testing"

	"querylab/api"
	"querylab/linear"
)

// The references say what the chapter says, without a search.

// A turn is a ProofSplit on the way to a node, and the Kid that the way goes to.
type turn struct {
	v, kid int
	bound  int64
}

// accepted says whether the system is valid and a proof of it as the chapter wants it.
func accepted(s api.System, p api.Proof) bool {
	return linear.Valid(s) == api.OK && nodesOf(p) <= api.MaxBranch && depthOf(p) <= 200 && rightAfter(s, p, nil)
}

func nodesOf(p api.Proof) int {
	n := 1
	for _, kid := range p.Kids {
		n += nodesOf(kid)
	}
	return n
}

func depthOf(p api.Proof) int {
	n := 0
	for _, kid := range p.Kids {
		n = max(n, depthOf(kid))
	}
	return n + 1
}

func rightAfter(s api.System, p api.Proof, way []turn) bool {
	if p.Kind == api.ProofSplit {
		if len(p.Kids) != 2 || len(p.Multipliers) > 0 || p.Var < 0 || p.Var >= len(s.Upper) || p.Bound < 0 || p.Bound > api.MaxSummary {
			return false
		}
		for k, kid := range p.Kids {
			if !rightAfter(s, kid, append(slices.Clone(way), turn{p.Var, k, p.Bound})) {
				return false
			}
		}
		return true
	}
	if p.Var != 0 || p.Bound != 0 || len(p.Kids) > 0 {
		return false
	}
	lower, upper := boundsAfter(s, way)
	return p.Kind == api.ProofBounds && linear.CheckBounds(s, lower, upper, p.Multipliers) ||
		p.Kind == api.ProofLattice && linear.CheckLattice(s, p.Multipliers)
}

func boundsAfter(s api.System, way []turn) (lower, upper []int64) {
	for v, most := range s.Upper {
		least := int64(0)
		for _, t := range way {
			if t.v == v && t.kid == 0 && t.bound < most {
				most = t.bound
			}
			if t.v == v && t.kid == 1 && t.bound+1 > least {
				least = t.bound + 1
			}
		}
		lower, upper = append(lower, least), append(upper, most)
	}
	return lower, upper
}

// satisfied is for a valid system.
func satisfied(s api.System, x []int64) bool {
	if len(x) != len(s.Upper) {
		return false
	}
	for v, n := range x {
		if n < 0 || n > s.Upper[v] {
			return false
		}
	}
	for i, row := range s.Rows {
		if dot(row, x) != s.Right[i] {
			return false
		}
	}
	return true
}

func dot(a, b []int64) int64 {
	var all int64
	for k, n := range a {
		all += n * b[k]
	}
	return all
}

// solvable goes through all points.
func solvable(s api.System) bool {
	x := make([]int64, len(s.Upper))
	for {
		if satisfied(s, x) {
			return true
		}
		v := 0
		for v < len(x) && x[v] == s.Upper[v] {
			x[v] = 0
			v++
		}
		if v == len(x) {
			return false
		}
		x[v]++
	}
}

// The outcomes of Solve.
const (
	feasible   = "feasible"
	infeasible = "infeasible"
	large      = "large"
)

// solve returns the outcome of Solve for a valid system, and checks what it returns.
func solve(t *testing.T, s api.System) string {
	t.Helper()
	before := clone(s)
	x, p, err := Solve(s)
	if !reflect.DeepEqual(s, before) {
		t.Fatalf("%v: changed", before)
	}
	return judged(t, s, outcome{x, p, err})
}

func judged(t *testing.T, s api.System, o outcome) string {
	t.Helper()
	none := reflect.DeepEqual(o.proof, api.Proof{})
	switch {
	case o.err == api.ErrLimit && len(o.x) == 0 && none:
		return large
	case o.err == api.OK && none && satisfied(s, o.x):
		if !Check(s, o.x) {
			t.Fatalf("%v: %v is a solution", s, o.x)
		}
		return feasible
	case o.err == api.ErrNone && len(o.x) == 0 && accepted(s, o.proof):
		if !CheckProof(s, o.proof) {
			t.Fatalf("%v: %v is a proof", s, o.proof)
		}
		return infeasible
	}
	t.Fatalf("%v: %v", s, o)
	return ""
}

// decided checks the outcome of a system that has few points.
func decided(t *testing.T, s api.System, outcome string) {
	t.Helper()
	want := infeasible
	if solvable(s) {
		want = feasible
	}
	if outcome != want {
		t.Fatalf("%v: %s", s, outcome)
	}
}

func clone(s api.System) api.System {
	c := api.System{Upper: slices.Clone(s.Upper), Right: slices.Clone(s.Right)}
	for _, row := range s.Rows {
		c.Rows = append(c.Rows, slices.Clone(row))
	}
	return c
}

func system(upper []int64, right []int64, rows ...[]int64) api.System {
	return api.System{Upper: upper, Rows: rows, Right: right}
}

// A maker makes systems.
type maker struct{ *rand.Rand }

func newMaker(seed uint64) maker {
	return maker{rand.New(rand.NewPCG(seed, 12))}
}

// among returns a number from least to most.
func (m maker) among(least, most int64) int64 {
	return least + m.Int64N(most-least+1)
}

// point returns numbers up to the bounds.
func (m maker) point(upper []int64) []int64 {
	var x []int64
	for _, u := range upper {
		x = append(x, m.Int64N(u+1))
	}
	return x
}

// rows adds rows such that a point is a solution, or, in some cases, just not.
func (m maker) rows(s api.System, n int, greatest int64) api.System {
	x := m.point(s.Upper)
	for range n {
		var row []int64
		for range s.Upper {
			row = append(row, m.among(-greatest, greatest)*min(1, m.among(0, 3)))
		}
		s.Rows = append(s.Rows, row)
		s.Right = append(s.Right, dot(row, x))
	}
	if m.IntN(3) > 0 {
		s.Right[m.IntN(n)] += m.among(-3, 3)
	}
	for i, r := range s.Right {
		s.Right[i] = max(-api.MaxSummary, min(api.MaxSummary, r))
	}
	return s
}

// small makes a system with at most so many points.
func (m maker) small(points int64) api.System {
	var s api.System
	for range 1 + m.IntN(9) {
		u := m.among(0, points-1)
		if m.IntN(2) == 0 {
			u = min(u, m.among(0, 4))
		}
		s.Upper = append(s.Upper, u)
		points /= u + 1
	}
	return m.rows(s, 1+m.IntN(4), []int64{1, 3, 20, 1000, api.MaxCoef}[m.IntN(5)])
}

// dense makes a system all of whose variables have bounds up to the same number.
func (m maker) dense(variables, rows int, greatest, upper int64) api.System {
	var s api.System
	for range variables {
		s.Upper = append(s.Upper, m.among(0, upper))
	}
	return m.rows(s, rows, greatest)
}
