package meaning

import (
	"slices"

	"querylab/algebra"
	"querylab/api"
	"querylab/bag"
	"querylab/expression"
	"querylab/schema"
	"querylab/value"
)

// database is what queries are asked of: an instance that fits its schema.
type database struct {
	schema   api.Schema
	instance api.Instance
}

// rows returns those of a query without type errors, in any order, and false if a limit is exceeded. They may share memory with the instance and the query.
func (d database) rows(q api.Query) ([][]api.Value, bool) {
	var kids [][][]api.Value
	for _, k := range q.Kids {
		rows, ok := d.rows(k)
		if !ok {
			return nil, false
		}
		kids = append(kids, rows)
	}
	if q.Op == api.QJoin && len(kids[0])*len(kids[1]) > api.MaxPairs {
		return nil, false
	}
	rows := d.operate(q, kids)
	return rows, len(rows) <= api.MaxBag
}

// operate returns the rows of an operator whose Kids have these rows.
func (d database) operate(q api.Query, kids [][][]api.Value) [][]api.Value {
	switch q.Op {
	case api.QScan:
		return d.scan(q.Table)
	case api.QValues:
		return q.Rows
	case api.QSelect:
		return choose(kids[0], func(k int) bool { return holds(q.Cond, kids[0][k]) })
	case api.QProject:
		return project(q.Exprs, kids[0])
	case api.QJoin:
		return d.join(q, kids[0], kids[1])
	case api.QUnion:
		return bag.Union(kids[0], kids[1], q.All)
	case api.QExcept:
		return bag.Except(kids[0], kids[1], q.All)
	case api.QIntersect:
		return bag.Intersect(kids[0], kids[1], q.All)
	case api.QDistinct:
		return bag.Distinct(kids[0])
	}
	return group(q.Exprs, q.Aggs, kids[0])
}

func (d database) scan(table string) [][]api.Value {
	k, _ := schema.Find(d.schema, table)
	return d.instance.Tables[k]
}

// choose returns the rows whose index is wanted.
func choose(rows [][]api.Value, wanted func(k int) bool) [][]api.Value {
	var chosen [][]api.Value
	for k, row := range rows {
		if wanted(k) {
			chosen = append(chosen, row)
		}
	}
	return chosen
}

func holds(cond api.Expr, row []api.Value) bool {
	return value.Truth(expression.Eval(cond, row)) == 1
}

func project(exprs []api.Expr, rows [][]api.Value) [][]api.Value {
	var projected [][]api.Value
	for _, row := range rows {
		projected = append(projected, values(exprs, row))
	}
	return projected
}

func values(exprs []api.Expr, row []api.Value) []api.Value {
	var l []api.Value
	for _, e := range exprs {
		l = append(l, expression.Eval(e, row))
	}
	return l
}

// width returns the number of columns of a query, which its rows do not say if there are none.
func (d database) width(q api.Query) int {
	types, _ := algebra.Type(d.schema, q)
	return len(types)
}

func (d database) join(q api.Query, first, second [][]api.Value) [][]api.Value {
	m := match(q.Cond, first, second)
	aloneFirst := choose(first, func(k int) bool { return !m.first[k] })
	aloneSecond := choose(second, func(k int) bool { return !m.second[k] })
	switch q.Kind {
	case api.JoinSemi:
		return choose(first, func(k int) bool { return m.first[k] })
	case api.JoinAnti:
		return aloneFirst
	}
	rows := m.pairs
	if q.Kind == api.JoinLeft || q.Kind == api.JoinFull {
		nulls := make([]api.Value, d.width(q.Kids[1]))
		for _, a := range aloneFirst {
			rows = append(rows, slices.Concat(a, nulls))
		}
	}
	if q.Kind == api.JoinRight || q.Kind == api.JoinFull {
		nulls := make([]api.Value, d.width(q.Kids[0]))
		for _, b := range aloneSecond {
			rows = append(rows, slices.Concat(nulls, b))
		}
	}
	return rows
}

// matches says which rows of two bags match: all pairs, and for each row of either bag whether it is in one.
type matches struct {
	pairs         [][]api.Value
	first, second []bool
}

func match(cond api.Expr, first, second [][]api.Value) matches {
	m := matches{first: make([]bool, len(first)), second: make([]bool, len(second))}
	var both []api.Value
	for i, a := range first {
		for k, b := range second {
			// Few of the many pairs match, so that one list serves them all.
			both = append(append(both[:0], a...), b...)
			if holds(cond, both) {
				m.pairs = append(m.pairs, slices.Clone(both))
				m.first[i], m.second[k] = true, true
			}
		}
	}
	return m
}
