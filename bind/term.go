package bind

import "querylab/api"

// finder returns the column that a whole term stands for, and whether it stands for one.
type finder func(api.Term) (int, bool, api.Errno)

// expressionOf returns the expression of a term, which it looks at from outside to inside.
func expressionOf(t api.Term, find finder) (api.Expr, api.Errno) {
	place, found, err := find(t)
	if err != api.OK {
		return api.Expr{}, err
	}
	if found {
		return api.Expr{Op: api.OpColumn, Column: place}, api.OK
	}
	kids, err := expressionsOf(t.Kids, find)
	if err != api.OK {
		return api.Expr{}, err
	}
	return api.Expr{Op: t.Op, Type: t.Type, Num: t.Num, Text: t.Text, Kids: kids}, api.OK
}

func expressionsOf(l []api.Term, find finder) ([]api.Expr, api.Errno) {
	return each(l, func(t api.Term) (api.Expr, api.Errno) { return expressionOf(t, find) })
}

// each returns what becomes of the elements of a list, or the first error.
func each[A, B any](l []A, become func(A) (B, api.Errno)) ([]B, api.Errno) {
	var all []B
	for _, a := range l {
		b, err := become(a)
		if err != api.OK {
			return nil, err
		}
		all = append(all, b)
	}
	return all, api.OK
}

// aggregateOf returns the aggregate of a term that is one.
func aggregateOf(t api.Term, below scope) (api.Agg, api.Errno) {
	a := api.Agg{Fun: int(t.Num)}
	if a.Fun == api.AggRows {
		return a, api.OK
	}
	var err api.Errno
	a.Arg, err = expressionOf(t.Kids[0], below.find)
	return a, err
}

// aggregates returns those in a list of terms, but not those within an aggregate.
func aggregates(l []api.Term) []api.Term {
	var all []api.Term
	for _, t := range l {
		if t.Op == api.TermAgg {
			all = append(all, t)
		} else {
			all = append(all, aggregates(t.Kids)...)
		}
	}
	return all
}

// termOf returns a term of an expression whose columns have these references.
func termOf(e api.Expr, reference func(place int) api.Term) api.Term {
	if e.Op == api.OpColumn {
		return reference(e.Column)
	}
	return api.Term{Op: e.Op, Type: e.Type, Num: e.Num, Text: e.Text, Kids: termsOf(e.Kids, reference)}
}

func termsOf(l []api.Expr, reference func(place int) api.Term) []api.Term {
	var all []api.Term
	for _, e := range l {
		all = append(all, termOf(e, reference))
	}
	return all
}
