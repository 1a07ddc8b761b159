package integrity

import (
	"slices"

	"querylab/api"
	"querylab/expression"
	"querylab/schema"
	"querylab/value"
)

// reference says what is wrong by the words of the chapter, comparing each row with each other one.
type reference struct {
	schema   api.Schema
	instance api.Instance
	found    []api.Violation
}

func (x *reference) add(kind, table, index, row, other int) {
	x.found = append(x.found, api.Violation{Kind: kind, Table: table, Index: index, Row: row, Other: other})
}

func (x *reference) violations() []api.Violation {
	for k, t := range x.schema.Tables {
		x.singleRows(k)
		if !x.fits(k) {
			continue
		}
		x.twice(api.BadPrimary, k, 0, t.Primary)
		for index, columns := range t.Uniques {
			x.twice(api.BadUnique, k, index, columns)
		}
		for index, f := range t.Foreigns {
			x.foreign(k, index, f.Columns)
		}
		for index, e := range t.Checks {
			for n, r := range x.instance.Tables[k] {
				if expression.Eval(e, r) == truth(0) {
					x.add(api.BadCheck, k, index, n, 0)
				}
			}
		}
	}
	return x.found
}

func (x *reference) hasType(v api.Value, t int) bool {
	return v == null || v.Kind == t && value.Valid(v)
}

func (x *reference) singleRows(k int) {
	t := x.schema.Tables[k]
	for n, r := range x.instance.Tables[k] {
		if len(r) != len(t.Columns) {
			x.add(api.BadArity, k, 0, n, 0)
			continue
		}
		for c := range t.Columns {
			if !x.hasType(r[c], t.Columns[c].Type) {
				x.add(api.BadType, k, c, n, 0)
			} else if r[c] == null && (slices.Contains(t.Primary, c) || !t.Columns[c].Nullable) {
				x.add(api.BadNull, k, c, n, 0)
			}
		}
	}
}

func (x *reference) fits(k int) bool {
	types := schema.Types(x.schema.Tables[k])
	for _, r := range x.instance.Tables[k] {
		if len(r) != len(types) {
			return false
		}
		for c, v := range r {
			if !x.hasType(v, types[c]) {
				return false
			}
		}
	}
	return true
}

func chosen(r row, columns []int) row {
	var l row
	for _, c := range columns {
		l = append(l, r[c])
	}
	return l
}

func (x *reference) twice(kind, k, index int, columns []int) {
	rows := x.instance.Tables[k]
	for n := range rows {
		for other := range n {
			a, b := chosen(rows[n], columns), chosen(rows[other], columns)
			if slices.Equal(a, b) && (kind == api.BadPrimary || !slices.Contains(a, null)) {
				x.add(kind, k, index, n, other)
				break
			}
		}
	}
}

func (x *reference) foreign(k, index int, columns []int) {
	target, _ := schema.Target(x.schema, k, index)
	if !x.fits(target) {
		return
	}
	for n, r := range x.instance.Tables[k] {
		a := chosen(r, columns)
		found := slices.Contains(a, null)
		for _, other := range x.instance.Tables[target] {
			found = found || slices.Equal(a, chosen(other, x.schema.Tables[target].Primary))
		}
		if !found {
			x.add(api.BadForeign, k, index, n, 0)
		}
	}
}
