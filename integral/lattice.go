package integral

import (
	"slices"

	"querylab/api"
	"querylab/fraction"
)

// A lattice is all sums of whole multiples of a system's columns. For each row it has at most one vector, which is 0 above this row but not in it; the sums of whole multiples of these vectors are the same.
//
// Numbers that become too large wrap around, and make multipliers that prove nothing.
type lattice [][]int64

// latticeMultipliers returns the multipliers of a ProofLattice, unless the right side is such a sum.
func latticeMultipliers(s api.System) []api.Frac {
	l := make(lattice, len(s.Rows))
	for _, column := range columns(s) {
		l.add(column)
		l.reduce()
	}
	rest := slices.Clone(s.Right)
	for i, v := range l {
		switch {
		case v == nil && rest[i] != 0:
			return l.multipliers(i, 2*rest[i])
		case v != nil && rest[i]%v[i] != 0:
			return l.multipliers(i, v[i])
		case v != nil:
			subtract(rest, rest[i]/v[i], v)
		}
	}
	return nil
}

func columns(s api.System) [][]int64 {
	all := make([][]int64, len(s.Upper))
	for _, row := range s.Rows {
		for v, c := range row {
			all[v] = append(all[v], c)
		}
	}
	return all
}

// add is Euclid's algorithm in each row.
func (l lattice) add(v []int64) {
	for i := range l {
		for v[i] != 0 && l[i] != nil {
			subtract(v, v[i]/l[i][i], l[i])
			if v[i] != 0 {
				l[i], v = v, l[i]
			}
		}
		if v[i] != 0 {
			l[i] = v
			return
		}
	}
}

// reduce makes the vectors small in the rows of others, so that they stay small when more are added.
func (l lattice) reduce() {
	for k, v := range l {
		for i := k + 1; v != nil && i < len(l); i++ {
			if l[i] != nil {
				subtract(v, v[i]/l[i][i], l[i])
			}
		}
	}
}

// subtract takes away n times another vector.
func subtract(v []int64, n int64, other []int64) {
	if n == 0 {
		return
	}
	for i, c := range other {
		v[i] -= n * c
	}
}

// multipliers returns some for which all vectors are whole, with 1 / den for the last row that counts. A fraction that becomes too large is invalid, and so is what is computed from it.
func (l lattice) multipliers(last int, den int64) []api.Frac {
	m := zeros(len(l))
	m[last], _ = fraction.Of(1, den)
	for i := last - 1; i >= 0; i-- {
		if l[i] != nil {
			m[i], _ = fraction.Div(weighted(l[i], m), whole(-l[i][i]))
		}
	}
	return m
}

func weighted(numbers []int64, fractions []api.Frac) api.Frac {
	sum := whole(0)
	for i, n := range numbers {
		product, _ := fraction.Mul(whole(n), fractions[i])
		sum, _ = fraction.Add(sum, product)
	}
	return sum
}
