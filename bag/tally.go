package bag

import (
	"slices"

	"querylab/api"
	"querylab/value"
)

// A tally says how often a row occurs in a first bag (m) and in a second one (n).
type tally struct {
	row  []api.Value
	m, n int
}

// tallies returns one for each row of a or b, ascending. Their rows share memory with those of a and b.
func tallies(a, b [][]api.Value) []tally {
	a, b = ascending(a), ascending(b)
	var list []tally
	for len(a) > 0 || len(b) > 0 {
		row := first(a, b)
		m, n := leading(a, row), leading(b, row)
		list = append(list, tally{row, m, n})
		a, b = a[m:], b[n:]
	}
	return list
}

func ascending(rows [][]api.Value) [][]api.Value {
	sorted := slices.Clone(rows)
	slices.SortFunc(sorted, value.CompareRows)
	return sorted
}

// first returns the least row of two ascending lists that are not both empty.
func first(a, b [][]api.Value) []api.Value {
	if len(b) == 0 || len(a) > 0 && value.CompareRows(a[0], b[0]) < 0 {
		return a[0]
	}
	return b[0]
}

// leading returns how many rows at the beginning are the same as row.
func leading(rows [][]api.Value, row []api.Value) int {
	other := slices.IndexFunc(rows, func(r []api.Value) bool { return !same(r, row) })
	if other < 0 {
		return len(rows)
	}
	return other
}

func same(a, b []api.Value) bool {
	return value.CompareRows(a, b) == 0
}

// combine returns each row of a or b as often as times says, from how often it occurs in a and in b.
func combine(a, b [][]api.Value, times func(m, n int) int) [][]api.Value {
	var rows [][]api.Value
	for _, t := range tallies(a, b) {
		for range times(t.m, t.n) {
			// Each repetition is a copy of its own, so that a change of one does not show in the others.
			rows = append(rows, slices.Clone(t.row))
		}
	}
	return rows
}

func plus(m, n int) int {
	return m + n
}

// repeating returns times itself if all is true, and otherwise times for sets: neither bag has a row more than once, and nor has the result.
func repeating(all bool, times func(m, n int) int) func(m, n int) int {
	if all {
		return times
	}
	return func(m, n int) int {
		return min(times(min(m, 1), min(n, 1)), 1)
	}
}
