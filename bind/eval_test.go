package bind

import (
	"math/rand/v2"
	"slices"

	"querylab/api"
	"querylab/expression"
	"querylab/schema"
	"querylab/value"
)

// evaluate returns the rows of a query over an instance, as the table of chapter 8 says, in the order of value.CompareRows.
func evaluate(s api.Schema, i api.Instance, q api.Query) [][]api.Value {
	var kids [][][]api.Value
	for _, k := range q.Kids {
		kids = append(kids, evaluate(s, i, k))
	}
	var rows [][]api.Value
	switch q.Op {
	case api.QScan:
		table, _ := schema.Find(s, q.Table)
		rows = slices.Clone(i.Tables[table])
	case api.QSelect:
		for _, row := range kids[0] {
			if holds(q.Cond, row) {
				rows = append(rows, row)
			}
		}
	case api.QProject:
		for _, row := range kids[0] {
			rows = append(rows, values(q.Exprs, row))
		}
	case api.QJoin:
		rows = joinRows(q, kids[0], kids[1], widthOf(s, q.Kids[0]), widthOf(s, q.Kids[1]))
	case api.QUnion, api.QExcept, api.QIntersect:
		rows = setRows(q, kids[0], kids[1])
	case api.QDistinct:
		rows = distinctRows(kids[0])
	case api.QGroup:
		rows = groupRows(q, kids[0])
	}
	slices.SortFunc(rows, value.CompareRows)
	return rows
}

func holds(cond api.Expr, row []api.Value) bool {
	return value.Truth(expression.Eval(cond, row)) == 1
}

func values(l []api.Expr, row []api.Value) []api.Value {
	var result []api.Value
	for _, e := range l {
		result = append(result, expression.Eval(e, row))
	}
	return result
}

func widthOf(s api.Schema, q api.Query) int {
	switch q.Op {
	case api.QScan:
		table, _ := schema.Find(s, q.Table)
		return len(s.Tables[table].Columns)
	case api.QProject, api.QGroup:
		return len(q.Exprs) + len(q.Aggs)
	case api.QJoin:
		if q.Kind < api.JoinSemi {
			return widthOf(s, q.Kids[0]) + widthOf(s, q.Kids[1])
		}
	}
	return widthOf(s, q.Kids[0])
}

func joinRows(q api.Query, left, right [][]api.Value, leftWidth, rightWidth int) [][]api.Value {
	var rows [][]api.Value
	matched := make([]bool, len(right))
	for _, a := range left {
		any := false
		for k, b := range right {
			both := slices.Concat(a, b)
			if !holds(q.Cond, both) {
				continue
			}
			any, matched[k] = true, true
			if q.Kind < api.JoinSemi {
				rows = append(rows, both)
			}
		}
		if !any && (q.Kind == api.JoinLeft || q.Kind == api.JoinFull) {
			rows = append(rows, slices.Concat(a, make([]api.Value, rightWidth)))
		}
		if any && q.Kind == api.JoinSemi || !any && q.Kind == api.JoinAnti {
			rows = append(rows, a)
		}
	}
	for k, b := range right {
		if !matched[k] && (q.Kind == api.JoinRight || q.Kind == api.JoinFull) {
			rows = append(rows, slices.Concat(make([]api.Value, leftWidth), b))
		}
	}
	return rows
}

func countRow(rows [][]api.Value, row []api.Value) int {
	n := 0
	for _, r := range rows {
		if slices.Equal(r, row) {
			n++
		}
	}
	return n
}

func distinctRows(rows [][]api.Value) [][]api.Value {
	return slices.CompactFunc(rows, func(a, b []api.Value) bool { return slices.Equal(a, b) })
}

func setRows(q api.Query, left, right [][]api.Value) [][]api.Value {
	both := slices.Concat(left, right)
	slices.SortFunc(both, value.CompareRows)
	var rows [][]api.Value
	for _, row := range distinctRows(both) {
		m, n := countRow(left, row), countRow(right, row)
		if !q.All {
			m, n = min(m, 1), min(n, 1)
		}
		times := max(m-n, 0)
		switch q.Op {
		case api.QUnion:
			times = m + n
			if !q.All {
				times = 1
			}
		case api.QIntersect:
			times = min(m, n)
		}
		rows = append(rows, slices.Repeat([][]api.Value{row}, times)...)
	}
	return rows
}

func groupRows(q api.Query, rows [][]api.Value) [][]api.Value {
	var keys [][]api.Value
	var groups [][][]api.Value
	if len(q.Exprs) == 0 {
		keys, groups = [][]api.Value{nil}, [][][]api.Value{nil}
	}
	for _, row := range rows {
		key := values(q.Exprs, row)
		k := slices.IndexFunc(keys, func(other []api.Value) bool { return slices.Equal(key, other) })
		if k < 0 {
			k = len(keys)
			keys, groups = append(keys, key), append(groups, nil)
		}
		groups[k] = append(groups[k], row)
	}
	var result [][]api.Value
	for k, key := range keys {
		row := slices.Clone(key)
		for _, a := range q.Aggs {
			row = append(row, aggregateRows(a, groups[k]))
		}
		result = append(result, row)
	}
	return result
}

func aggregateRows(a api.Agg, rows [][]api.Value) api.Value {
	number := func(n int) api.Value { return api.Value{Kind: api.Int, Num: int64(n)} }
	if a.Fun == api.AggRows {
		return number(len(rows))
	}
	var l []api.Value
	for _, row := range rows {
		if v := expression.Eval(a.Arg, row); v.Kind != api.Null {
			l = append(l, v)
		}
	}
	slices.SortFunc(l, value.Compare)
	switch {
	case a.Fun == api.AggCount:
		return number(len(l))
	case a.Fun == api.AggDistinct:
		return number(len(slices.Compact(l)))
	case len(l) == 0:
		return api.Value{}
	case a.Fun == api.AggMin:
		return l[0]
	case a.Fun == api.AggMax:
		return l[len(l)-1]
	}
	sum := number(0)
	for _, v := range l {
		sum.Num += v.Num
	}
	return sum
}

// maker makes random queries and instances.
type maker struct {
	*rand.Rand
	schema api.Schema
}

func (m maker) value(t int) api.Value {
	switch n := int64(m.IntN(3)); {
	case m.IntN(5) == 0:
		return api.Value{}
	case t == api.Int:
		return api.Value{Kind: api.Int, Num: n - 1}
	case t == api.Bool:
		return api.Value{Kind: api.Bool, Num: n % 2}
	default:
		return api.Value{Kind: api.Text, Text: "aabb"[:n]}
	}
}

func (m maker) instance() api.Instance {
	var i api.Instance
	for _, t := range m.schema.Tables {
		var rows [][]api.Value
		for range m.IntN(5) {
			var row []api.Value
			for _, c := range t.Columns {
				row = append(row, m.value(c.Type))
			}
			rows = append(rows, row)
		}
		i.Tables = append(i.Tables, rows)
	}
	return i
}

// expr returns an expression of a type over columns with these types.
func (m maker) expr(types []int, want, depth int) api.Expr {
	op := func(o int, kids ...api.Expr) api.Expr { return api.Expr{Op: o, Kids: kids} }
	if depth <= 1 || m.IntN(3) == 0 {
		column := m.IntN(len(types))
		for range types {
			if types[column] == want && m.IntN(8) > 0 {
				return api.Expr{Op: api.OpColumn, Column: column}
			}
			column = (column + 1) % len(types)
		}
		return expression.Constant(m.value(want), want)
	}
	sub := func(t int) api.Expr { return m.expr(types, t, depth-1) }
	any := api.Int + m.IntN(3)
	switch n := m.IntN(8); {
	case n == 0:
		return op(api.OpCase, sub(api.Bool), sub(want), sub(want))
	case n == 1:
		return op(api.OpCoalesce, sub(want), sub(want))
	case want == api.Text:
		return op(api.OpConcat, sub(api.Text), sub(api.Text))
	case want == api.Int && n == 2:
		return op(api.OpNeg, sub(api.Int))
	case want == api.Int && n == 3:
		return op(api.OpLength, sub(api.Text))
	case want == api.Int:
		return op(api.OpAdd+m.IntN(5), sub(api.Int), sub(api.Int))
	case n == 2:
		return op(api.OpNot, sub(api.Bool))
	case n == 3:
		return op(api.OpAnd+m.IntN(2), sub(api.Bool), sub(api.Bool))
	case n == 4:
		return op(api.OpIsNull, sub(any))
	case n == 5:
		return op(api.OpIn, sub(any), sub(any), sub(any))
	case n == 6:
		return op(api.OpIsTrue, sub(api.Bool))
	}
	return op(api.OpEq+m.IntN(7), sub(any), sub(any))
}

func (m maker) exprs(types []int, least int) ([]api.Expr, []int) {
	var l []api.Expr
	var of []int
	for range least + m.IntN(3) {
		t := api.Int + m.IntN(3)
		l, of = append(l, m.expr(types, t, 1+m.IntN(3))), append(of, t)
	}
	return l, of
}

// query returns a query and the types of its columns. OpIn of three kinds may not fit, and so may other parts: see algebra.Type.
func (m maker) query(depth int) (api.Query, []int) {
	if depth <= 1 {
		t := m.schema.Tables[m.IntN(len(m.schema.Tables))]
		return api.Query{Op: api.QScan, Table: t.Name}, schema.Types(t)
	}
	kid, types := m.query(depth - 1)
	q := api.Query{Kids: []api.Query{kid}}
	switch m.IntN(8) {
	case 0, 1:
		q.Op, q.Cond = api.QSelect, m.expr(types, api.Bool, 3)
	case 2:
		q.Op = api.QProject
		q.Exprs, types = m.exprs(types, 1)
	case 3, 4:
		other, more := m.query(1 + m.IntN(depth-1))
		q.Op, q.Kind, q.Kids = api.QJoin, 1+m.IntN(6), append(q.Kids, other)
		both := slices.Concat(types, more)
		q.Cond = m.expr(both, api.Bool, 3)
		if q.Kind < api.JoinSemi {
			types = both
		}
	case 5:
		q.Op = api.QDistinct
	case 6:
		q.Op, q.All = api.QUnion+m.IntN(3), m.IntN(2) == 0
		again := api.Query{Op: api.QSelect, Cond: m.expr(types, api.Bool, 2), Kids: []api.Query{kid}}
		q.Kids = append(q.Kids, again)
	default:
		q.Op = api.QGroup
		least := m.IntN(2)
		var keys []int
		q.Exprs, keys = m.exprs(types, least)
		if m.IntN(3) == 0 {
			q.Exprs, keys = nil, nil
		}
		q.Aggs, types = m.aggs(types, keys)
	}
	return q, types
}

func (m maker) aggs(types, keys []int) ([]api.Agg, []int) {
	l := []api.Agg{{Fun: api.AggRows}}
	of := append(keys, api.Int)
	for range m.IntN(4) {
		fun, arg := api.AggCount+m.IntN(5), api.Int+m.IntN(3)
		if fun == api.AggSum {
			arg = api.Int
		}
		l = append(l, api.Agg{Fun: fun, Arg: m.expr(types, arg, 1+m.IntN(2))})
		if fun < api.AggMin {
			arg = api.Int
		}
		of = append(of, arg)
	}
	return l, of
}
