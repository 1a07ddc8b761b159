package meaning

import (
	"math/rand/v2"
	"slices"

	"querylab/algebra"
	"querylab/api"
	"querylab/expression"
	"querylab/schema"
)

// reference computes the result of a query from the words of the chapter alone, without other layers' bags, and says the greatest number of rows and of pairs on the way.
type reference struct {
	schema      api.Schema
	instance    api.Instance
	rows, pairs int
}

func (x *reference) result(q api.Query) []row {
	var kids [][]row
	for _, k := range q.Kids {
		kids = append(kids, x.result(k))
	}
	if q.Op == api.QJoin {
		x.pairs = max(x.pairs, len(kids[0])*len(kids[1]))
	}
	rows := x.operator(q, kids)
	x.rows = max(x.rows, len(rows))
	return rows
}

func (x *reference) operator(q api.Query, kids [][]row) []row {
	var rows []row
	switch q.Op {
	case api.QScan:
		for k, t := range x.schema.Tables {
			if t.Name == q.Table {
				rows = x.instance.Tables[k]
			}
		}
	case api.QValues:
		rows = q.Rows
	case api.QSelect:
		for _, r := range kids[0] {
			if isTrue(q.Cond, r) {
				rows = append(rows, r)
			}
		}
	case api.QProject:
		for _, r := range kids[0] {
			rows = append(rows, evaluated(q.Exprs, r))
		}
	case api.QJoin:
		rows = x.joined(q, kids[0], kids[1])
	case api.QGroup:
		rows = groupsOf(q, kids[0])
	default:
		rows = repeated(q, kids)
	}
	return rows
}

func isTrue(cond api.Expr, r row) bool {
	return expression.Eval(cond, r) == truth(1)
}

func evaluated(exprs []api.Expr, r row) row {
	var l row
	for _, e := range exprs {
		l = append(l, expression.Eval(e, r))
	}
	return l
}

func (x *reference) joined(q api.Query, first, second []row) []row {
	nulls := func(kid int) row {
		types, _ := algebra.Type(x.schema, q.Kids[kid])
		return make(row, len(types))
	}
	partners := func(a, b []row) []row {
		var l []row
		for _, r := range a {
			for _, s := range b {
				if both := slices.Concat(r, s); isTrue(q.Cond, both) {
					l = append(l, both)
				}
			}
		}
		return l
	}
	var rows []row
	if q.Kind <= api.JoinFull {
		rows = partners(first, second)
	}
	for _, r := range first {
		matches := len(partners([]row{r}, second)) > 0
		switch {
		case !matches && (q.Kind == api.JoinLeft || q.Kind == api.JoinFull):
			rows = append(rows, slices.Concat(r, nulls(1)))
		case matches && q.Kind == api.JoinSemi, !matches && q.Kind == api.JoinAnti:
			rows = append(rows, r)
		}
	}
	for _, r := range second {
		if (q.Kind == api.JoinRight || q.Kind == api.JoinFull) && len(partners(first, []row{r})) == 0 {
			rows = append(rows, slices.Concat(nulls(0), r))
		}
	}
	return rows
}

func occurs(rows []row, r row) int {
	n := 0
	for _, other := range rows {
		if slices.Equal(other, r) {
			n++
		}
	}
	return n
}

// repeated returns the rows of the operators of package bag, by how often each row occurs in the Kids.
func repeated(q api.Query, kids [][]row) []row {
	var rows []row
	for _, r := range slices.Concat(kids...) {
		if occurs(rows, r) > 0 {
			continue
		}
		m, n := occurs(kids[0], r), 0
		if len(kids) > 1 {
			n = occurs(kids[1], r)
		}
		times := map[int]int{api.QUnion: m + n, api.QExcept: m - n, api.QIntersect: min(m, n), api.QDistinct: 1}[q.Op]
		if !q.All {
			holds := map[int]bool{api.QUnion: true, api.QExcept: n == 0, api.QIntersect: m > 0 && n > 0, api.QDistinct: true}[q.Op]
			times = map[bool]int{true: 1}[holds]
		}
		for range times {
			rows = append(rows, r)
		}
	}
	return rows
}

func groupsOf(q api.Query, kid []row) []row {
	var keys []row
	for _, r := range kid {
		if key := evaluated(q.Exprs, r); occurs(keys, key) == 0 {
			keys = append(keys, key)
		}
	}
	if len(q.Exprs) == 0 {
		keys = []row{nil}
	}
	var rows []row
	for _, key := range keys {
		var members []row
		for _, r := range kid {
			if slices.Equal(evaluated(q.Exprs, r), key) {
				members = append(members, r)
			}
		}
		result := slices.Clone(key)
		for _, a := range q.Aggs {
			result = append(result, Aggregate(a, members))
		}
		rows = append(rows, result)
	}
	return rows
}

// maker makes random queries and instances.
type maker struct {
	*rand.Rand
	schema api.Schema
}

func (m maker) value(t int) api.Value {
	switch n := int64(m.IntN(3)); {
	case m.IntN(5) == 0:
		return api.Value{}
	case t == api.Int:
		return api.Value{Kind: api.Int, Num: n - 1}
	case t == api.Bool:
		return api.Value{Kind: api.Bool, Num: n % 2}
	default:
		return api.Value{Kind: api.Text, Text: "aabb"[:n]}
	}
}

func (m maker) instance() api.Instance {
	var i api.Instance
	for _, t := range m.schema.Tables {
		var rows [][]api.Value
		for range m.IntN(5) {
			var row []api.Value
			for _, c := range t.Columns {
				row = append(row, m.value(c.Type))
			}
			rows = append(rows, row)
		}
		i.Tables = append(i.Tables, rows)
	}
	return i
}

// expr returns an expression of a type over columns with these types.
func (m maker) expr(types []int, want, depth int) api.Expr {
	op := func(o int, kids ...api.Expr) api.Expr { return api.Expr{Op: o, Kids: kids} }
	if depth <= 1 || m.IntN(3) == 0 {
		column := m.IntN(len(types))
		for range types {
			if types[column] == want && m.IntN(8) > 0 {
				return api.Expr{Op: api.OpColumn, Column: column}
			}
			column = (column + 1) % len(types)
		}
		return expression.Constant(m.value(want), want)
	}
	sub := func(t int) api.Expr { return m.expr(types, t, depth-1) }
	any := api.Int + m.IntN(3)
	switch n := m.IntN(8); {
	case n == 0:
		return op(api.OpCase, sub(api.Bool), sub(want), sub(want))
	case n == 1:
		return op(api.OpCoalesce, sub(want), sub(want))
	case want == api.Text:
		return op(api.OpConcat, sub(api.Text), sub(api.Text))
	case want == api.Int && n == 2:
		return op(api.OpNeg, sub(api.Int))
	case want == api.Int && n == 3:
		return op(api.OpLength, sub(api.Text))
	case want == api.Int:
		return op(api.OpAdd+m.IntN(5), sub(api.Int), sub(api.Int))
	case n == 2:
		return op(api.OpNot, sub(api.Bool))
	case n == 3:
		return op(api.OpAnd+m.IntN(2), sub(api.Bool), sub(api.Bool))
	case n == 4:
		return op(api.OpIsNull, sub(any))
	case n == 5:
		return op(api.OpIn, sub(any), sub(any), sub(any))
	case n == 6:
		return op(api.OpIsTrue, sub(api.Bool))
	}
	return op(api.OpEq+m.IntN(7), sub(any), sub(any))
}

func (m maker) exprs(types []int, least int) ([]api.Expr, []int) {
	var l []api.Expr
	var of []int
	for range least + m.IntN(3) {
		t := api.Int + m.IntN(3)
		l, of = append(l, m.expr(types, t, 1+m.IntN(3))), append(of, t)
	}
	return l, of
}

// query returns a query and the types of its columns. OpIn of three kinds may not fit, and so may other parts: see algebra.Type.
func (m maker) query(depth int) (api.Query, []int) {
	if depth <= 1 && m.IntN(4) == 0 {
		return m.literal()
	}
	if depth <= 1 {
		t := m.schema.Tables[m.IntN(len(m.schema.Tables))]
		return api.Query{Op: api.QScan, Table: t.Name}, schema.Types(t)
	}
	kid, types := m.query(depth - 1)
	q := api.Query{Kids: []api.Query{kid}}
	switch m.IntN(8) {
	case 0, 1:
		q.Op, q.Cond = api.QSelect, m.expr(types, api.Bool, 3)
	case 2:
		q.Op = api.QProject
		q.Exprs, types = m.exprs(types, 1)
	case 3, 4:
		other, more := m.query(1 + m.IntN(depth-1))
		q.Op, q.Kind, q.Kids = api.QJoin, 1+m.IntN(6), append(q.Kids, other)
		both := slices.Concat(types, more)
		q.Cond = m.expr(both, api.Bool, 3)
		if q.Kind < api.JoinSemi {
			types = both
		}
	case 5:
		q.Op = api.QDistinct
	case 6:
		q.Op, q.All = api.QUnion+m.IntN(3), m.IntN(2) == 0
		q.Kids = append(q.Kids, m.alike(kid, types))
	default:
		q.Op = api.QGroup
		least := m.IntN(2)
		var keys []int
		q.Exprs, keys = m.exprs(types, least)
		if m.IntN(3) == 0 {
			q.Exprs, keys = nil, nil
		}
		q.Aggs, types = m.aggs(types, keys)
	}
	return q, types
}

func (m maker) aggs(types, keys []int) ([]api.Agg, []int) {
	l := []api.Agg{{Fun: api.AggRows}}
	of := append(keys, api.Int)
	for range m.IntN(4) {
		fun, arg := api.AggCount+m.IntN(5), api.Int+m.IntN(3)
		if fun == api.AggSum {
			arg = api.Int
		}
		l = append(l, api.Agg{Fun: fun, Arg: m.expr(types, arg, 1+m.IntN(2))})
		if fun < api.AggMin {
			arg = api.Int
		}
		of = append(of, arg)
	}
	return l, of
}

// literal returns a query of some rows.
func (m maker) literal() (api.Query, []int) {
	q := api.Query{Op: api.QValues}
	for range 1 + m.IntN(2) {
		q.Types = append(q.Types, api.Int+m.IntN(3))
	}
	for range m.IntN(4) {
		var r row
		for _, t := range q.Types {
			r = append(r, m.value(t))
		}
		q.Rows = append(q.Rows, r)
	}
	return q, q.Types
}

// alike returns a query of columns with these types: part of kid, or rows of its own.
func (m maker) alike(kid api.Query, types []int) api.Query {
	if m.IntN(2) == 0 {
		return filter(m.expr(types, api.Bool, 2), kid)
	}
	other, more := m.query(1 + m.IntN(2))
	q := api.Query{Op: api.QProject, Kids: []api.Query{other}}
	for _, t := range types {
		q.Exprs = append(q.Exprs, m.expr(more, t, 1))
	}
	return q
}
