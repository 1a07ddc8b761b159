package bind

import (
	"slices"

	"querylab/api"
	"querylab/naming"
	"querylab/schema"
)

// binder makes queries of valid statements over a valid schema.
type binder struct{ schema api.Schema }

// result is a query with the names of its columns.
type result struct {
	query api.Query
	names []string
}

// relation is a query with the scope of its columns.
type relation struct {
	query api.Query
	scope scope
}

func (b binder) statement(x api.Statement) (result, api.Errno) {
	if x.Form == api.FormSelect {
		return b.selection(x)
	}
	kids, err := each(x.Kids, b.statement)
	if err != api.OK {
		return result{}, err
	}
	op := api.QUnion + x.Form - api.FormUnion
	return result{api.Query{Op: op, All: x.All, Kids: []api.Query{kids[0].query, kids[1].query}}, kids[0].names}, api.OK
}

func (b binder) selection(x api.Statement) (result, api.Errno) {
	r, err := b.sources(x)
	if err != api.OK {
		return result{}, err
	}
	r.query, err = selected(r.query, x.Where, r.scope.find)
	if err != api.OK {
		return result{}, err
	}
	find := naming.Finder(r.scope.find)
	if isGrouped(x) {
		r.query, find, err = grouped(r, x)
		if err != api.OK {
			return result{}, err
		}
	}
	return projected(r, x, find)
}

// sources returns what stands behind from, with its joins.
func (b binder) sources(x api.Statement) (relation, api.Errno) {
	all, err := b.source(x.From)
	if err != api.OK {
		return relation{}, err
	}
	used := []string{qualifier(x.From)}
	for _, j := range x.Joins {
		next, err := b.source(j.Source)
		if err != api.OK {
			return relation{}, err
		}
		if slices.Contains(used, qualifier(j.Source)) {
			return relation{}, api.ErrDuplicate
		}
		used = append(used, qualifier(j.Source))
		all, err = joined(all, next, j)
		if err != api.OK {
			return relation{}, err
		}
	}
	return all, api.OK
}

func qualifier(s api.Source) string {
	if s.Name == "" {
		return s.Table
	}
	return s.Name
}

func (b binder) source(s api.Source) (relation, api.Errno) {
	if len(s.Query) > 0 {
		r, err := b.statement(s.Query[0])
		return relation{r.query, columnsOf(s.Name, r.names)}, err
	}
	i, ok := schema.Find(b.schema, s.Table)
	if !ok {
		return relation{}, api.ErrMissing
	}
	return relation{api.Query{Op: api.QScan, Table: s.Table}, columnsOf(qualifier(s), names(b.schema.Tables[i]))}, api.OK
}

func joined(left, right relation, j api.Joined) (relation, api.Errno) {
	both := slices.Concat(left.scope, right.scope)
	q := api.Query{Op: api.QJoin, Kind: j.Kind, Kids: []api.Query{left.query, right.query}}
	if j.Kind == 0 {
		q.Kind, q.Cond = api.JoinInner, api.Expr{Op: api.OpBool, Num: 1}
		return relation{q, both}, api.OK
	}
	var err api.Errno
	q.Cond, err = naming.Expr(j.On[0], both.find)
	return relation{q, behind(j.Kind, left.scope, both)}, err
}

// behind returns the scope behind a join.
func behind(kind int, left, both scope) scope {
	if kind == api.JoinSemi || kind == api.JoinAnti {
		return left
	}
	return both
}

// selected returns a query with these conditions, of which there is one at most.
func selected(q api.Query, conditions []api.Term, find naming.Finder) (api.Query, api.Errno) {
	l, err := expressionsOf(conditions, find)
	for _, cond := range l {
		q = api.Query{Op: api.QSelect, Cond: cond, Kids: []api.Query{q}}
	}
	return q, err
}

func isGrouped(x api.Statement) bool {
	return len(x.Group) > 0 || len(x.Having) > 0 || len(aggregates(terms(x.Items))) > 0
}

func terms(items []api.Item) []api.Term {
	var l []api.Term
	for _, i := range items {
		l = append(l, i.Term)
	}
	return l
}

// grouped returns the groups that having lets through, and how columns above them are found.
func grouped(r relation, x api.Statement) (api.Query, naming.Finder, api.Errno) {
	g, err := groupOf(x, r.scope)
	if err != api.OK {
		return api.Query{}, nil, err
	}
	q, err := selected(api.Query{Op: api.QGroup, Exprs: g.keys, Aggs: g.aggs, Kids: []api.Query{r.query}}, x.Having, g.find)
	return q, g.find, err
}

func groupOf(x api.Statement, below scope) (group, api.Errno) {
	if x.Star {
		return group{}, api.ErrInvalid
	}
	keys, err := expressionsOf(x.Group, below.find)
	if err != api.OK {
		return group{}, err
	}
	g := group{below: below, keys: keys}
	for _, t := range aggregates(slices.Concat(terms(x.Items), x.Having)) {
		a, err := aggregateOf(t, below)
		if err != api.OK {
			return group{}, err
		}
		if index(g.aggs, a, sameAgg) < 0 {
			g.aggs = append(g.aggs, a)
		}
	}
	return g, api.OK
}

// projected returns the columns that a select gives.
func projected(r relation, x api.Statement, find naming.Finder) (result, api.Errno) {
	exprs, err := expressionsOf(terms(x.Items), find)
	if err != api.OK {
		return result{}, err
	}
	names := itemNames(x.Items)
	if x.Star {
		exprs, names = columns(len(r.scope)), r.scope.names()
	}
	q := api.Query{Op: api.QProject, Exprs: exprs, Kids: []api.Query{r.query}}
	if x.Distinct {
		q = api.Query{Op: api.QDistinct, Kids: []api.Query{q}}
	}
	return result{q, names}, api.OK
}

func itemNames(items []api.Item) []string {
	var l []string
	for _, i := range items {
		l = append(l, itemName(i))
	}
	return l
}

func itemName(i api.Item) string {
	if i.Name == "" && i.Term.Op == api.TermName {
		return i.Term.Text
	}
	return i.Name
}

// columns returns so many columns from the first one on.
func columns(n int) []api.Expr {
	var l []api.Expr
	for i := range n {
		l = append(l, api.Expr{Op: api.OpColumn, Column: i})
	}
	return l
}
