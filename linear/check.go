package linear

import (
	"slices"

	"querylab/api"
	"querylab/fraction"
)

// limited reports whether all numbers, of variables, of rows and in them, keep their limits.
func limited(s api.System) bool {
	if len(s.Upper) > api.MaxVars || len(s.Rows) > api.MaxCons {
		return false
	}
	for _, row := range s.Rows {
		if !within(row, -api.MaxCoef, api.MaxCoef) {
			return false
		}
	}
	return within(s.Right, -api.MaxSummary, api.MaxSummary) && within(s.Upper, 0, api.MaxSummary)
}

func within(l []int64, least, most int64) bool {
	return !slices.ContainsFunc(l, func(n int64) bool { return n < least || n > most })
}

func rectangular(s api.System) bool {
	other := func(row []int64) bool { return len(row) != len(s.Upper) }
	return len(s.Right) == len(s.Rows) && !slices.ContainsFunc(s.Rows, other)
}

func allValid(l []api.Frac) bool {
	return !slices.ContainsFunc(l, func(f api.Frac) bool { return !fraction.Valid(f) })
}

func column(s api.System, k int) []int64 {
	var l []int64
	for _, row := range s.Rows {
		l = append(l, row[k])
	}
	return l
}

// bounds reports whether two lists can be the bounds of a system's variables.
func bounds(s api.System, lower, upper []int64) bool {
	for _, l := range [][]int64{lower, upper} {
		if len(l) != len(s.Upper) || !within(l, -api.MaxSummary, api.MaxSummary) {
			return false
		}
	}
	return true
}

// crossed reports whether there is a lower bound above its upper one.
func crossed(lower, upper []int64) bool {
	for k := range lower {
		if lower[k] > upper[k] {
			return true
		}
	}
	return false
}

// extreme returns the sum of the coefficients times a number each: of the first list for those that are negative, of the second one for the others.
func extreme(coefficients []api.Frac, negative, positive []int64) sum {
	x := slices.Clone(positive)
	for k, c := range coefficients {
		if c.Num < 0 {
			x[k] = negative[k]
		}
	}
	return total(x, coefficients)
}
