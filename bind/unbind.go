package bind

import (
	"slices"
	"strconv"

	"querylab/api"
	"querylab/expression"
	"querylab/naming"
	"querylab/schema"
)

func hasValues(q api.Query) bool {
	return q.Op == api.QValues || slices.ContainsFunc(q.Kids, hasValues)
}

// unbinder makes statements of queries over a valid schema, which have types and no values.
type unbinder struct{ schema api.Schema }

// statement returns a statement of a query, and the names of its columns, which differ.
func (u unbinder) statement(q api.Query) (api.Statement, []string) {
	switch q.Op {
	case api.QUnion, api.QExcept, api.QIntersect:
		first, names := u.statement(q.Kids[0])
		second, _ := u.statement(q.Kids[1])
		return api.Statement{Form: api.FormUnion + q.Op - api.QUnion, All: q.All, Kids: []api.Statement{first, second}}, names
	}
	return u.selection(q)
}

// layers are the operators at the top of a query that one select stands for.
type layers struct {
	distinct bool
	items    []api.Expr // none for all columns
	having   []api.Expr
	group    []api.Query // none or one element
	where    []api.Expr
	from     api.Query
}

func layersOf(q api.Query) layers {
	var l layers
	for q.Op == api.QDistinct {
		l.distinct, q = true, q.Kids[0]
	}
	if q.Op == api.QProject {
		l.items, q = q.Exprs, q.Kids[0]
	}
	l.where, l.from = conditions(q)
	if l.from.Op == api.QGroup && l.show(l.from) {
		l.having, l.group = l.where, []api.Query{l.from}
		l.where, l.from = conditions(l.from.Kids[0])
	}
	return l
}

// conditions returns those of the selections at the top of a query, and the query below them.
func conditions(q api.Query) ([]api.Expr, api.Query) {
	var l []api.Expr
	for q.Op == api.QSelect {
		l = append(l, q.Cond)
		q = q.Kids[0]
	}
	return l, q
}

// show reports whether a select with what stands above a group is grouped: without keys, one of the aggregates has to occur.
func (l layers) show(g api.Query) bool {
	return len(g.Exprs) > 0 || len(l.items) == 0 || slices.ContainsFunc(slices.Concat(l.items, l.where), hasColumn)
}

func hasColumn(e api.Expr) bool {
	return len(expression.Columns(e)) > 0
}

func (u unbinder) selection(q api.Query) (api.Statement, []string) {
	l := layersOf(q)
	x := api.Statement{Form: api.FormSelect, Distinct: l.distinct}
	below := u.addSources(&x, l.from)
	x.Where = conjunction(termsOf(l.where, below.reference))
	width, reference := len(below), below.reference
	for _, q := range l.group {
		g := group{below, q.Exprs, q.Aggs}
		x.Group = termsOf(g.keys, below.reference)
		x.Having = conjunction(termsOf(l.having, g.reference))
		width, reference = len(g.keys)+len(g.aggs), g.reference
	}
	if len(l.items) == 0 {
		l.items = columns(width)
	}
	names := addItems(&x, termsOf(l.items, reference))
	return x, names
}

// conjunction returns a term that holds where all of these do, unless there are none. It is no deeper than it has to be.
func conjunction(l []api.Term) []api.Term {
	if len(l) < 2 {
		return l
	}
	half := len(l) / 2
	return []api.Term{{Op: api.OpAnd, Kids: slices.Concat(conjunction(l[:half]), conjunction(l[half:]))}}
}

// addSources adds what stands for a query behind from and join, and returns its scope.
func (u unbinder) addSources(x *api.Statement, q api.Query) scope {
	var joins []api.Query
	for q.Op == api.QJoin {
		joins = append(joins, q)
		q = q.Kids[0]
	}
	first, all := u.source(q, nil)
	used := []string{qualifier(first)}
	x.From = first
	for _, j := range slices.Backward(joins) {
		source, next := u.source(j.Kids[1], used)
		both := slices.Concat(all, next)
		used = append(used, qualifier(source))
		x.Joins = append(x.Joins, api.Joined{Kind: j.Kind, Source: source, On: []api.Term{naming.Term(j.Cond, both.reference)}})
		all = behind(j.Kind, all, both)
	}
	return all
}

// source returns a source for a query, whose qualifier is none of those that are used, and its scope.
func (u unbinder) source(q api.Query, used []string) (api.Source, scope) {
	if q.Op != api.QScan {
		x, names := u.statement(q)
		s := api.Source{Query: []api.Statement{x}, Name: fresh(used, "", "q")}
		return s, columnsOf(s.Name, names)
	}
	s := api.Source{Table: q.Table}
	name := fresh(used, q.Table, "q")
	if name != q.Table {
		s.Name = name
	}
	i, _ := schema.Find(u.schema, q.Table)
	return s, columnsOf(name, names(u.schema.Tables[i]))
}

// addItems adds items, and returns their names, which differ.
func addItems(x *api.Statement, l []api.Term) []string {
	var names []string
	for _, t := range l {
		item := api.Item{Term: t}
		name := fresh(names, itemName(item), "c")
		if name != itemName(item) {
			item.Name = name
		}
		names = append(names, name)
		x.Items = append(x.Items, item)
	}
	return names
}

// fresh returns a name that is not used: the wanted one, if there is one and it is not.
func fresh(used []string, wanted, prefix string) string {
	name := wanted
	for n := 0; name == "" || slices.Contains(used, name); n++ {
		name = prefix + strconv.Itoa(n)
	}
	return name
}
