package demand

import (
	"slices"
	"strconv"

	"querylab/api"
	"querylab/naming"
	"querylab/sql"
)

// Text is P14.5.
func Text(s api.Schema, l []api.Demand) string {
	isWrong := func(d api.Demand) bool {
		return d.Rows < 0 || d.Rows > api.MaxScale || Valid(s, d.View) != api.OK
	}
	if len(l) > api.MaxDemands || slices.ContainsFunc(l, isWrong) {
		return ""
	}
	text := ""
	for _, d := range l {
		text += "rows " + strconv.Itoa(d.Rows) + " of " + viewText(s, d.View) + "\n"
	}
	return text
}

func viewText(s api.Schema, v api.View) string {
	text := v.Table
	chain, _ := Tables(s, v)
	for place, foreign := range v.Path {
		t := s.Tables[chain[place]]
		text += "." + t.Columns[t.Foreigns[foreign].Columns[0]].Name
	}
	for _, cond := range v.Cond {
		text += " where " + sql.TermText(naming.Term(cond, namesOf(s, v).reference))
	}
	return text
}
