package demand

import (
	"slices"
	"strconv"

	"querylab/api"
	"querylab/sql"
)

// names are terms that stand for the columns of a view, in their order.
type names []api.Term

func namesOf(s api.Schema, v api.View) names {
	chain, _ := Tables(s, v)
	var l names
	for _, c := range columns(s, chain) {
		name := api.Term{Op: api.TermName, Qualifier: "t" + strconv.Itoa(c.place), Text: c.Name}
		l = append(l, short(name))
	}
	return l
}

// short returns a name without the qualifier of the first table, which a name has that has none.
func short(name api.Term) api.Term {
	if name.Qualifier == "t0" {
		name.Qualifier = ""
	}
	return name
}

// reference returns the name of a column.
func (l names) reference(column int) api.Term {
	return l[column]
}

// find returns the column that a term stands for, and whether it stands for one.
func (l names) find(t api.Term) (int, bool, api.Errno) {
	switch t.Op {
	case api.TermAgg:
		return 0, false, api.ErrInvalid
	case api.TermName:
		column := slices.IndexFunc(l, func(name api.Term) bool { return sql.SameTerm(name, short(t)) })
		if column < 0 {
			return 0, false, api.ErrName
		}
		return column, true, api.OK
	}
	return 0, false, api.OK
}
