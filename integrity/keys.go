package integrity

import (
	"querylab/api"
	"querylab/schema"
)

// A key is the values of a row in the columns of a key, in their order. What is left of it is null, which is the same for all rows.
type key [api.MaxColumns]api.Value

// keyOf also reports whether none of the values is null.
func keyOf(row []api.Value, columns []int) (key, bool) {
	var k key
	whole := true
	for i, c := range columns {
		k[i] = row[c]
		whole = whole && row[c].Kind != api.Null
	}
	return k, whole
}

// firstRows returns, for each key, the number of the first row that has it.
func firstRows(rows [][]api.Value, columns []int) map[key]int {
	first := map[key]int{}
	for n, row := range rows {
		k, _ := keyOf(row, columns)
		if _, ok := first[k]; !ok {
			first[k] = n
		}
	}
	return first
}

// inKeys returns what is wrong with the primary key and the unique keys of a table that fits.
func (t table) inKeys() []api.Violation {
	found := t.repeated(t.Primary, api.Violation{Kind: api.BadPrimary})
	for index, columns := range t.Uniques {
		found = append(found, t.repeated(columns, api.Violation{Kind: api.BadUnique, Index: index})...)
	}
	return found
}

// repeated returns v for each row with the key of an earlier row. Rows with nulls in a unique key repeat nothing.
func (t table) repeated(columns []int, v api.Violation) []api.Violation {
	var found []api.Violation
	first := firstRows(t.rows, columns)
	for n, row := range t.rows {
		k, whole := keyOf(row, columns)
		if first[k] < n && (whole || v.Kind == api.BadPrimary) {
			v.Row, v.Other = n, first[k]
			found = append(found, v)
		}
	}
	return found
}

// inForeigns returns what is wrong with the foreign keys of a table that fits. Those that name a table that does not fit are not looked at.
func (d database) inForeigns(k int) []api.Violation {
	var found []api.Violation
	for index, f := range d.tables[k].Foreigns {
		target, _ := schema.Target(d.schema, k, index)
		if other := d.tables[target]; other.fits {
			there := firstRows(other.rows, other.Primary)
			found = append(found, d.tables[k].dangling(f.Columns, there, index)...)
		}
	}
	return found
}

// dangling returns the rows whose key is whole and not there.
func (t table) dangling(columns []int, there map[key]int, index int) []api.Violation {
	var found []api.Violation
	for n, row := range t.rows {
		k, whole := keyOf(row, columns)
		if _, ok := there[k]; whole && !ok {
			found = append(found, api.Violation{Kind: api.BadForeign, Index: index, Row: n})
		}
	}
	return found
}
