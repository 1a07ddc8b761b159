package region

import (
	"slices"

	"querylab/api"
	"querylab/expression"
	"querylab/value"
)

// Regions is P13.4.
func Regions(s api.Schema, table int, l []api.Atom, parents [][]api.Region) ([]api.Region, api.Errno) {
	if !Plain(s) || table < 0 || table >= len(s.Tables) {
		return nil, api.ErrInvalid
	}
	t := s.Tables[table]
	if !suitAscending(t, l) || len(parents) != len(t.Foreigns) {
		return nil, api.ErrInvalid
	}
	values := sampleValues(t, l)
	if ways(values) > api.MaxCells {
		return nil, api.ErrLimit
	}
	rows := samples(t, values)
	n := len(rows) * ways(parents)
	if n > api.MaxCells {
		return nil, api.ErrLimit
	}
	// One empty list leaves no region, but the choices from the lists before it might be too many to go through.
	if n == 0 {
		return nil, api.OK
	}
	return combined(l, rows, choices(parents)), api.OK
}

func suitAscending(t api.Table, l []api.Atom) bool {
	for i, a := range l {
		if !Suits(t, a) || i > 0 && Compare(l[i-1], a) >= 0 {
			return false
		}
	}
	return true
}

// sampleValues returns, for each column of a table, the values that samples have there.
func sampleValues(t api.Table, l []api.Atom) [][]api.Value {
	var all [][]api.Value
	for i, c := range t.Columns {
		if free(t, i) {
			all = append(all, Classes(c, i, l))
		} else {
			all = append(all, []api.Value{{Kind: api.Int}})
		}
	}
	return all
}

// samples returns the rows of such values for which no check is false. No two of them give all atoms the same truths, because no two classes of a column do.
func samples(t api.Table, values [][]api.Value) [][]api.Value {
	var rows [][]api.Value
	for _, choice := range choices(values) {
		var row []api.Value
		for column, k := range choice {
			row = append(row, values[column][k])
		}
		if !forbidden(t, row) {
			rows = append(rows, row)
		}
	}
	return rows
}

func forbidden(t api.Table, row []api.Value) bool {
	return slices.ContainsFunc(t.Checks, func(e api.Expr) bool {
		return value.Truth(expression.Eval(e, row)) == 0
	})
}

// ways returns in how many ways one element of each list can be chosen, or a number above MaxCells.
func ways[T any](lists [][]T) int {
	n := 1
	for _, l := range lists {
		n = min(n*len(l), api.MaxCells+1)
	}
	return n
}

// choices returns the numbers of the chosen elements for each of these ways; that of the first list changes slowest.
func choices[T any](lists [][]T) [][]int {
	all := [][]int{nil}
	for _, l := range lists {
		var longer [][]int
		for _, choice := range all {
			for k := range l {
				longer = append(longer, append(slices.Clone(choice), k))
			}
		}
		all = longer
	}
	return all
}

// combined returns a region for each row and each choice of parents.
func combined(l []api.Atom, rows [][]api.Value, parents [][]int) []api.Region {
	truthsFor := truths(l)
	var regions []api.Region
	for _, row := range rows {
		truth := truthsFor(row)
		for _, choice := range parents {
			regions = append(regions, api.Region{Truth: slices.Clone(truth), Parents: slices.Clone(choice), Sample: slices.Clone(row)})
		}
	}
	return regions
}
