package integrity

import (
	"slices"

	"querylab/api"
	"querylab/expression"
	"querylab/value"
)

// A table is one of the schema with its rows, and what is wrong with single rows. It fits if each row has as many values as there are columns, and each of them is valid and of its column's type or null.
type table struct {
	api.Table
	rows   [][]api.Value
	inRows []api.Violation
	fits   bool
}

func examinedTable(t api.Table, rows [][]api.Value) table {
	var found []api.Violation
	for n, row := range rows {
		for _, v := range inRow(t, row) {
			v.Row = n
			found = append(found, v)
		}
	}
	unfit := slices.ContainsFunc(found, func(v api.Violation) bool {
		return v.Kind == api.BadArity || v.Kind == api.BadType
	})
	return table{t, rows, found, !unfit}
}

// inRow returns what is wrong with a row, without its number.
func inRow(t api.Table, row []api.Value) []api.Violation {
	if len(row) != len(t.Columns) {
		return []api.Violation{{Kind: api.BadArity}}
	}
	var found []api.Violation
	for c, v := range row {
		if kind, bad := inValue(t, c, v); bad {
			found = append(found, api.Violation{Kind: kind, Index: c})
		}
	}
	return found
}

// inValue returns what is wrong with the value of a column, and whether something is.
func inValue(t api.Table, column int, v api.Value) (int, bool) {
	c := t.Columns[column]
	switch {
	case !value.Valid(v), v.Kind != api.Null && v.Kind != c.Type:
		return api.BadType, true
	case v.Kind == api.Null && (!c.Nullable || slices.Contains(t.Primary, column)):
		return api.BadNull, true
	}
	return 0, false
}

// inChecks returns what the checks say of the rows of a table that fits.
func (t table) inChecks() []api.Violation {
	var found []api.Violation
	for index, check := range t.Checks {
		for n, row := range t.rows {
			if value.Truth(expression.Eval(check, row)) == 0 {
				found = append(found, api.Violation{Kind: api.BadCheck, Index: index, Row: n})
			}
		}
	}
	return found
}
