package region

import (
	"slices"

	"querylab/api"
	"querylab/schema"
)

// Of is P13.5.
func Of(s api.Schema, i api.Instance, regions [][]api.Region, atoms [][]api.Atom, table, row int) (int, bool) {
	if !Plain(s) || len(regions) < len(s.Tables) || len(atoms) < len(s.Tables) {
		return 0, false
	}
	return divided{s, i, regions, atoms}.region(table, row)
}

// divided is an instance of a plain schema, with the regions and atoms of all its tables.
type divided struct {
	schema   api.Schema
	instance api.Instance
	regions  [][]api.Region
	atoms    [][]api.Atom
}

// region returns the number of the region in which a row lies.
func (d divided) region(table, n int) (int, bool) {
	rows := d.rows(table)
	if n < 0 || n >= len(rows) {
		return 0, false
	}
	parents, ok := d.parents(table, rows[n])
	if !ok {
		return 0, false
	}
	truth := truths(d.atoms[table])(rows[n])
	found := slices.IndexFunc(d.regions[table], func(r api.Region) bool {
		return slices.Equal(r.Truth, truth) && slices.Equal(r.Parents, parents)
	})
	return max(found, 0), found >= 0
}

// rows returns those of a table, none if there is no such table.
func (d divided) rows(table int) [][]api.Value {
	if table < 0 || table >= len(d.schema.Tables) || table >= len(d.instance.Tables) {
		return nil
	}
	return d.instance.Tables[table]
}

// parents returns the numbers of the regions of the rows that a row of a table references.
func (d divided) parents(table int, row []api.Value) ([]int, bool) {
	var l []int
	for k, f := range d.schema.Tables[table].Foreigns {
		target, _ := schema.Target(d.schema, table, k)
		// Without a row with this key, its number is -1, and it has no region.
		n, ok := d.region(target, d.first(target, at(row, f.Columns[0])))
		if !ok {
			return nil, false
		}
		l = append(l, n)
	}
	return l, true
}

// first returns the number of the first row with a primary key, or -1.
func (d divided) first(table int, key api.Value) int {
	if key.Kind == api.Null {
		return -1
	}
	column := d.schema.Tables[table].Primary[0]
	return slices.IndexFunc(d.rows(table), func(row []api.Value) bool {
		return at(row, column) == key
	})
}

// at returns a value of a row, null if the row is too short to have it.
func at(row []api.Value, column int) api.Value {
	if column >= len(row) {
		return api.Value{}
	}
	return row[column]
}
