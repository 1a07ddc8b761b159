package demand

import (
	"slices"

	"querylab/api"
	"querylab/region"
)

// Atoms is P14.2.
func Atoms(s api.Schema, v api.View) ([][]api.Atom, bool) {
	chain, ok := Tables(s, v)
	if !ok {
		return nil, false
	}
	of := columns(s, chain)
	l, ok := atoms(joined(s, chain), v.Cond)
	if !ok {
		return nil, false
	}
	all := make([][]api.Atom, len(chain))
	for _, a := range l {
		c := of[a.Column]
		a.Column = c.number
		all[c.place] = append(all[c.place], a)
	}
	return all, true
}

// joined returns a table with all columns of a chain, in which those are free that are free in their tables.
func joined(s api.Schema, chain []int) api.Table {
	var t api.Table
	for k, c := range columns(s, chain) {
		isNull := api.Atom{Column: c.number, Op: api.OpIsNull} // suits each free column
		if !region.Suits(s.Tables[chain[c.place]], isNull) {
			t.Primary = append(t.Primary, k)
		}
		t.Columns = append(t.Columns, c.Column)
	}
	return t
}

// atoms returns those of all these conditions, ascending, each once.
func atoms(t api.Table, conditions []api.Expr) ([]api.Atom, bool) {
	var all []api.Atom
	for _, cond := range conditions {
		l, ok := region.Atoms(t, cond)
		if !ok {
			return nil, false
		}
		all = append(all, l...)
	}
	slices.SortFunc(all, region.Compare)
	return slices.Compact(all), true
}
