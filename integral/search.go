package integral

import (
	"math/bits"
	"slices"

	"querylab/api"
	"querylab/fraction"
	"querylab/linear"
)

// mostWork limits how long the linear systems of all boxes may take together.
const mostWork = 20000000

// An outcome is what Solve returns.
type outcome struct {
	x     []int64
	proof api.Proof
	err   api.Errno
}

func proven(p api.Proof) outcome {
	return outcome{proof: p, err: api.ErrNone}
}

func unknown() outcome {
	return outcome{err: api.ErrLimit}
}

// A search makes a proof, from the root on, unless it comes upon a solution.
type search struct {
	system      api.System
	nodes, work int // that are left
}

// newSearch leaves out the root, which is a node without being added.
func newSearch(s api.System, work int) *search {
	return &search{s, api.MaxBranch - 1, work}
}

func find(s api.System) outcome {
	if m := latticeMultipliers(s); linear.CheckLattice(s, m) {
		return proven(api.Proof{Kind: api.ProofLattice, Multipliers: m})
	}
	first := newSearch(s, mostWork)
	if found := first.sharp(root(s)); found.err != api.ErrLimit {
		return found
	}
	return newSearch(s, first.work).halved(root(s))
}

// sharp divides at a fraction that linear.Solve finds, which is in neither part.
func (s *search) sharp(b box) outcome {
	found, x := s.look(b)
	if found.err != api.ErrLimit {
		return found
	}
	if v := slices.IndexFunc(x, broken); v >= 0 {
		return s.divide(b, v, b.lower[v]+fraction.Floor(x[v]), s.sharp)
	}
	for _, v := range b.free() {
		// What makes a fraction too large is most often a variable just above 0.
		if b.lower[v] == 0 {
			return s.divide(b, v, 0, s.sharp)
		}
	}
	v := b.widest()
	return s.divide(b, v, b.middle(v), s.sharp)
}

// halved divides in the middle, so that its proofs are not deep. A box that holds few points is decided even if linear.Solve is of no help, because both parts hold fewer.
func (s *search) halved(b box) outcome {
	found, x := s.look(b)
	if found.err != api.ErrLimit {
		return found
	}
	v := slices.IndexFunc(x, broken)
	if v < 0 {
		v = b.widest()
	}
	return s.divide(b, v, b.middle(v), s.halved)
}

// divide goes on with both parts of a box, until there is a solution in one.
func (s *search) divide(b box, v int, bound int64, next func(box) outcome) outcome {
	if s.nodes < 2 || b.depth == deepest {
		return unknown()
	}
	s.nodes -= 2
	var kids []api.Proof
	for _, part := range b.divided(v, bound) {
		switch found := next(part); found.err {
		case api.OK:
			return found
		case api.ErrNone:
			kids = append(kids, found.proof)
		}
	}
	if len(kids) < 2 {
		return unknown()
	}
	return proven(api.Proof{Kind: api.ProofSplit, Var: v, Bound: bound, Kids: kids})
}

// look returns what is known of a box as a whole. If that is nothing, it also returns the solution that relaxed found, if it did.
func (s *search) look(b box) (outcome, []api.Frac) {
	if row := b.missed(s.system); row >= 0 {
		m := zeros(len(s.system.Rows))
		m[row].Num = 1
		return s.refuted(b, m), nil
	}
	x, m, err := s.relaxed(b)
	switch {
	case err != api.OK:
		return unknown(), nil
	case len(m) > 0:
		return s.refuted(b, m), nil
	case slices.ContainsFunc(x, broken):
		return unknown(), x
	}
	numbers := slices.Clone(b.lower)
	for v, f := range x {
		numbers[v] += f.Num
	}
	return outcome{x: numbers}, nil
}

// relaxed returns what linear.Solve does for how far the variables are above their lower bounds, unless that might take too long.
func (s *search) relaxed(b box) (x, m []api.Frac, err api.Errno) {
	free := b.free()
	distances := b.moved(s.system, free)
	work := effort(distances)
	if work > s.work {
		return nil, nil, api.ErrLimit
	}
	part, m, err := linear.Solve(distances)
	s.work = max(0, s.work-work*length(slices.Concat(part, m), err))
	x = zeros(len(b.lower))
	for k, f := range part {
		x[free[k]] = f
	}
	return x, m, err
}

// effort estimates the steps of linear.Solve: it goes through the system about once for each variable or row.
func effort(s api.System) int {
	n := 0
	for _, row := range s.Rows {
		for _, c := range row {
			if c != 0 {
				n++
			}
		}
	}
	return n * min(len(s.Upper), len(s.Rows))
}

// length returns how many bits the denominators have, which is about how long each step took.
func length(l []api.Frac, err api.Errno) int {
	greatest := int64(1)
	if err != api.OK {
		greatest = api.MaxFrac
	}
	for _, f := range l {
		greatest = max(greatest, f.Den)
	}
	return bits.Len64(uint64(greatest))
}

// refuted makes a leaf, unless the combination has a number that is too large where the bounds are not moved.
func (s *search) refuted(b box, m []api.Frac) outcome {
	if !linear.CheckBounds(s.system, b.lower, b.upper, m) {
		return unknown()
	}
	return proven(api.Proof{Kind: api.ProofBounds, Multipliers: m})
}
