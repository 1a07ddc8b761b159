package integral

import (
	"slices"

	"querylab/api"
)

// A box is what goes with a node of a proof: the bounds of the variables, and how deep the node is.
type box struct {
	lower, upper []int64
	depth        int
}

func root(s api.System) box {
	return box{make([]int64, len(s.Upper)), s.Upper, 1}
}

// divided returns the boxes of the two Kids of a ProofSplit.
func (b box) divided(v int, bound int64) [2]box {
	lower, upper := slices.Clone(b.lower), slices.Clone(b.upper)
	lower[v], upper[v] = max(lower[v], bound+1), min(upper[v], bound)
	return [2]box{{b.lower, upper, b.depth + 1}, {lower, b.upper, b.depth + 1}}
}

// width returns how far the bounds of a variable are apart.
func (b box) width(v int) int64 {
	return b.upper[v] - b.lower[v]
}

func (b box) middle(v int) int64 {
	return b.lower[v] + b.width(v)/2
}

func (b box) widest() int {
	best := 0
	for v := range b.lower {
		if b.width(v) > b.width(best) {
			best = v
		}
	}
	return best
}

// free returns the variables that can have several values.
func (b box) free() []int {
	var l []int
	for v := range b.lower {
		if b.width(v) > 0 {
			l = append(l, v)
		}
	}
	return l
}

// missed returns a row that no numbers between the bounds satisfy, or -1.
func (b box) missed(s api.System) int {
	for i, row := range s.Rows {
		var least, greatest int64
		for v, c := range row {
			least += min(c*b.lower[v], c*b.upper[v])
			greatest += max(c*b.lower[v], c*b.upper[v])
		}
		if s.Right[i] < least || s.Right[i] > greatest {
			return i
		}
	}
	return -1
}

// moved returns the system of how far the variables are above their lower bounds, with these variables alone: the others are at theirs.
func (b box) moved(s api.System, variables []int) api.System {
	var m api.System
	for _, v := range variables {
		m.Upper = append(m.Upper, b.width(v))
	}
	for i, row := range s.Rows {
		var part []int64
		for _, v := range variables {
			part = append(part, row[v])
		}
		rest := s.Right[i]
		for v, c := range row {
			rest -= c * b.lower[v]
		}
		m.Rows, m.Right = append(m.Rows, part), append(m.Right, rest)
	}
	return m
}
