// Package naming turns terms into expressions, and back: the names of a statement (layer 6) stand for columns in another way than those of a demand (layer 14).
package naming

import "querylab/api"

// Finder returns the column that a whole term stands for, and whether it stands for one.
type Finder func(api.Term) (int, bool, api.Errno)

// Expr returns the expression of a term, which it looks at from outside to inside.
func Expr(t api.Term, find Finder) (api.Expr, api.Errno) {
	column, found, err := find(t)
	if err != api.OK {
		return api.Expr{}, err
	}
	if found {
		return api.Expr{Op: api.OpColumn, Column: column}, api.OK
	}
	e := api.Expr{Op: t.Op, Type: t.Type, Num: t.Num, Text: t.Text}
	for _, k := range t.Kids {
		kid, err := Expr(k, find)
		if err != api.OK {
			return api.Expr{}, err
		}
		e.Kids = append(e.Kids, kid)
	}
	return e, api.OK
}

// Term returns a term of an expression whose columns have these references.
func Term(e api.Expr, reference func(column int) api.Term) api.Term {
	if e.Op == api.OpColumn {
		return reference(e.Column)
	}
	t := api.Term{Op: e.Op, Type: e.Type, Num: e.Num, Text: e.Text}
	for _, kid := range e.Kids {
		t.Kids = append(t.Kids, Term(kid, reference))
	}
	return t
}
