package bind

import (
	"querylab/api"
	"querylab/naming"
)

// expressionsOf returns the expressions of terms, or the first error.
func expressionsOf(l []api.Term, find naming.Finder) ([]api.Expr, api.Errno) {
	return each(l, func(t api.Term) (api.Expr, api.Errno) { return naming.Expr(t, find) })
}

// each returns what becomes of the elements of a list, or the first error.
func each[A, B any](l []A, become func(A) (B, api.Errno)) ([]B, api.Errno) {
	var all []B
	for _, a := range l {
		b, err := become(a)
		if err != api.OK {
			return nil, err
		}
		all = append(all, b)
	}
	return all, api.OK
}

// aggregateOf returns the aggregate of a term that is one.
func aggregateOf(t api.Term, below scope) (api.Agg, api.Errno) {
	a := api.Agg{Fun: int(t.Num)}
	if a.Fun == api.AggRows {
		return a, api.OK
	}
	var err api.Errno
	a.Arg, err = naming.Expr(t.Kids[0], below.find)
	return a, err
}

// aggregates returns those in a list of terms, but not those within an aggregate.
func aggregates(l []api.Term) []api.Term {
	var all []api.Term
	for _, t := range l {
		if t.Op == api.TermAgg {
			all = append(all, t)
		} else {
			all = append(all, aggregates(t.Kids)...)
		}
	}
	return all
}

// termsOf returns terms of expressions whose columns have these references.
func termsOf(l []api.Expr, reference func(place int) api.Term) []api.Term {
	var all []api.Term
	for _, e := range l {
		all = append(all, naming.Term(e, reference))
	}
	return all
}
