package integral

import (
	"querylab/api"
	"querylab/linear"
)

// deepest is how many nodes deep a proof may be.
const deepest = 200

// count returns the number of nodes of a proof, or most + 1 if it has more than most: nodes that share Kids can make it too large to go through.
func count(p api.Proof, most int) int {
	n := 0
	var walk func(p api.Proof)
	walk = func(p api.Proof) {
		n++
		for k := 0; k < len(p.Kids) && n <= most; k++ {
			walk(p.Kids[k])
		}
	}
	walk(p)
	return n
}

// right reports whether a node is right, and not too deep.
func right(s api.System, b box, p api.Proof) bool {
	switch p.Kind {
	case api.ProofBounds:
		return isLeaf(p, b) && linear.CheckBounds(s, b.lower, b.upper, p.Multipliers)
	case api.ProofLattice:
		return isLeaf(p, b) && linear.CheckLattice(s, p.Multipliers)
	case api.ProofSplit:
		if !isSplit(p, s) {
			return false
		}
		parts := b.divided(p.Var, p.Bound)
		return right(s, parts[0], p.Kids[0]) && right(s, parts[1], p.Kids[1])
	}
	return false
}

func isLeaf(p api.Proof, b box) bool {
	return b.depth <= deepest && p.Var == 0 && p.Bound == 0 && len(p.Kids) == 0
}

func isSplit(p api.Proof, s api.System) bool {
	variable := 0 <= p.Var && p.Var < len(s.Upper)
	return variable && 0 <= p.Bound && p.Bound <= api.MaxSummary && len(p.Multipliers) == 0 && len(p.Kids) == 2
}
