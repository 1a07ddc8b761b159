package demand

import (
	"slices"

	"querylab/api"
	"querylab/expression"
	"querylab/region"
	"querylab/value"
)

// Row is P14.4.
func Row(s api.Schema, i api.Instance, v api.View, n int) ([]api.Value, bool) {
	chain, ok := Tables(s, v)
	if !ok || !region.Plain(s) || len(i.Tables) < len(s.Tables) {
		return nil, false
	}
	return rowOf(links(s, i, v, chain), n)
}

// Count is P14.4.
func Count(s api.Schema, i api.Instance, v api.View) (int, api.Errno) {
	if err := Valid(s, v); err != api.OK {
		return 0, err
	}
	if len(i.Tables) != len(s.Tables) {
		return 0, api.ErrArity
	}
	chain, _ := Tables(s, v)
	l := links(s, i, v, chain)
	count := 0
	for n := range i.Tables[chain[0]] {
		if row, ok := rowOf(l, n); ok && holds(v.Cond, row) {
			count++
		}
	}
	return count, api.OK
}

// Holds is P14.4.
func Holds(s api.Schema, i api.Instance, l []api.Demand) bool {
	return !slices.ContainsFunc(l, func(d api.Demand) bool {
		n, err := Count(s, i, d.View)
		return err != api.OK || n != d.Rows
	})
}

func holds(conditions []api.Expr, row []api.Value) bool {
	return !slices.ContainsFunc(conditions, func(e api.Expr) bool {
		return value.Truth(expression.Eval(e, row)) != 1
	})
}

// link is a table of a chain: its rows, and how many values of each of them count.
type link struct {
	rows  [][]api.Value
	width int
	next  func(row []api.Value) int // the number of the row of the next table that a row references, or -1; nil at the end
}

// links returns the tables of a chain of a plain schema.
func links(s api.Schema, i api.Instance, v api.View, chain []int) []link {
	var l []link
	for place, table := range chain {
		l = append(l, link{rows: i.Tables[table], width: len(s.Tables[table].Columns)})
		if place > 0 {
			above := s.Tables[chain[place-1]]
			foreign := above.Foreigns[v.Path[place-1]].Columns[0]
			l[place-1].next = follow(foreign, i.Tables[table], s.Tables[table].Primary[0])
		}
	}
	return l
}

// follow returns a function that returns the number of the first of these rows whose value in a column is that of a given row in the column foreign, and not null.
func follow(foreign int, rows [][]api.Value, column int) func(row []api.Value) int {
	first := map[api.Value]int{}
	for n, row := range slices.Backward(rows) {
		if column < len(row) {
			first[row[column]] = n
		}
	}
	return func(row []api.Value) int {
		n, ok := first[row[foreign]]
		if !ok || row[foreign].Kind == api.Null {
			return -1
		}
		return n
	}
}

// rowOf returns the row of a chain that begins with row n of its first table.
func rowOf(chain []link, n int) ([]api.Value, bool) {
	var all []api.Value
	for _, t := range chain {
		if n < 0 || n >= len(t.rows) || len(t.rows[n]) < t.width {
			return nil, false
		}
		row := t.rows[n][:t.width]
		all = append(all, row...)
		if t.next != nil {
			n = t.next(row)
		}
	}
	return all, true
}
