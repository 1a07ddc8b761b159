package region

import (
	"cmp"
	"slices"

	"querylab/api"
	"querylab/expression"
	"querylab/value"
)

// Suits is P13.1.
func Suits(t api.Table, a api.Atom) bool {
	return free(t, a.Column) && fits(t.Columns[a.Column], a)
}

// fits reports whether an atom suits a table in which its column is c and free.
func fits(c api.Column, a api.Atom) bool {
	switch a.Op {
	case api.OpEq, api.OpNe:
		return constant(a.Value) && a.Value.Kind == c.Type
	case api.OpLt, api.OpLe, api.OpGt, api.OpGe:
		return constant(a.Value) && a.Value.Kind == api.Int && c.Type == api.Int
	case api.OpIsNull:
		return a.Value == api.Value{}
	case api.OpColumn:
		return a.Value == api.Value{} && c.Type == api.Bool
	}
	return false
}

func constant(v api.Value) bool {
	return value.Valid(v) && v.Kind != api.Null
}

// Expr is P13.1.
func Expr(a api.Atom) api.Expr {
	column := api.Expr{Op: api.OpColumn, Column: a.Column}
	switch a.Op {
	case api.OpColumn:
		return column
	case api.OpIsNull:
		return api.Expr{Op: api.OpIsNull, Kids: []api.Expr{column}}
	}
	return api.Expr{Op: a.Op, Kids: []api.Expr{column, expression.Constant(a.Value, 0)}}
}

// Compare is P13.1.
func Compare(a, b api.Atom) int {
	return cmp.Or(cmp.Compare(a.Column, b.Column), cmp.Compare(a.Op, b.Op), value.Compare(a.Value, b.Value))
}

// Atoms is P13.2.
func Atoms(t api.Table, e api.Expr) ([]api.Atom, bool) {
	l, ok := appendAtoms(nil, t, e)
	if !ok {
		return nil, false
	}
	slices.SortFunc(l, Compare)
	return slices.Compact(l), true
}

func appendAtoms(l []api.Atom, t api.Table, e api.Expr) ([]api.Atom, bool) {
	if !connective(e) {
		a := possibleAtom(e)
		return append(l, a), Suits(t, a) && expression.Same(e, Expr(a))
	}
	ok := true
	for _, k := range e.Kids {
		if l, ok = appendAtoms(l, t, k); !ok {
			return nil, false
		}
	}
	return l, true
}

// connective reports whether e is an OpAnd, OpOr or OpNot that has its Kids and nothing else.
func connective(e api.Expr) bool {
	kids := len(e.Kids)
	e.Kids = nil
	if !expression.Same(e, api.Expr{Op: e.Op}) {
		return false
	}
	return e.Op == api.OpNot && kids == 1 || (e.Op == api.OpAnd || e.Op == api.OpOr) && kids == 2
}

// possibleAtom returns the only atom whose expression might be e.
func possibleAtom(e api.Expr) api.Atom {
	a := api.Atom{Column: e.Column, Op: e.Op}
	if len(e.Kids) > 0 {
		a.Column = e.Kids[0].Column
	}
	if len(e.Kids) > 1 {
		a.Value = expression.Eval(e.Kids[1], nil)
	}
	return a
}

// truths returns a function that says the truths of atoms for a row.
func truths(l []api.Atom) func(row []api.Value) []int {
	var conditions []api.Expr
	for _, a := range l {
		conditions = append(conditions, Expr(a))
	}
	return func(row []api.Value) []int {
		var all []int
		for _, e := range conditions {
			all = append(all, value.Truth(expression.Eval(e, row)))
		}
		return all
	}
}
