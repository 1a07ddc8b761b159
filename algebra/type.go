package algebra

import (
	"slices"

	"querylab/api"
	"querylab/expression"
	"querylab/schema"
	"querylab/value"
)

// Type is P4.2.
func Type(s api.Schema, q api.Query) ([]int, api.Errno) {
	if sizeUpTo(api.MaxNodes, q) > api.MaxNodes {
		return nil, api.ErrLimit
	}
	if Depth(q) > api.MaxDepth {
		return nil, api.ErrDepth
	}
	return typesOf(s, q)
}

func typesOf(s api.Schema, q api.Query) ([]int, api.Errno) {
	var kids [][]int
	for _, k := range q.Kids {
		types, err := typesOf(s, k)
		if err != api.OK {
			return nil, err
		}
		kids = append(kids, types)
	}
	o, ok := find(q.Op)
	if !ok || !hasOnly(q, o) {
		return nil, api.ErrInvalid
	}
	if len(kids) != o.kids {
		return nil, api.ErrArity
	}
	return operatorTypes(s, q, kids)
}

// hasOnly reports whether all fields that the operator does not use are zero.
func hasOnly(q api.Query, o operator) bool {
	return (q.Table == "" || o.uses(hasTable)) &&
		(q.Kind == 0 || o.uses(hasKind)) &&
		(!q.All || o.uses(hasAll)) &&
		(isZero(q.Cond) || o.uses(hasCond)) &&
		(len(q.Exprs) == 0 || o.uses(hasExprs)) &&
		(len(q.Aggs) == 0 || o.uses(hasAggs)) &&
		(len(q.Types) == 0 || o.uses(hasTypes)) &&
		(len(q.Rows) == 0 || o.uses(hasRows))
}

func isZero(e api.Expr) bool {
	return expression.Same(e, api.Expr{})
}

// operatorTypes returns the types of an operator over as many Kids as it takes, with these types.
func operatorTypes(s api.Schema, q api.Query, kids [][]int) ([]int, api.Errno) {
	switch q.Op {
	case api.QScan:
		return scanTypes(s, q.Table)
	case api.QValues:
		return valuesTypes(q.Types, q.Rows)
	case api.QSelect:
		return selectTypes(kids[0], q.Cond)
	case api.QProject:
		return projectTypes(kids[0], q.Exprs)
	case api.QJoin:
		return joinTypes(q.Kind, kids[0], kids[1], q.Cond)
	case api.QUnion, api.QExcept, api.QIntersect:
		return setTypes(kids[0], kids[1])
	case api.QGroup:
		return groupTypes(kids[0], q.Exprs, q.Aggs)
	}
	return kids[0], api.OK // QDistinct
}

func scanTypes(s api.Schema, table string) ([]int, api.Errno) {
	i, ok := schema.Find(s, table)
	if !ok {
		return nil, api.ErrMissing
	}
	return schema.Types(s.Tables[i]), api.OK
}

func valuesTypes(types []int, rows [][]api.Value) ([]int, api.Errno) {
	if !isWidth(len(types)) || slices.ContainsFunc(types, isNoType) {
		return nil, api.ErrType
	}
	for _, row := range rows {
		if err := rowError(types, row); err != api.OK {
			return nil, err
		}
	}
	return slices.Clone(types), api.OK
}

func isWidth(columns int) bool {
	return 1 <= columns && columns <= api.MaxWidth
}

func isNoType(t int) bool {
	return t != api.Int && t != api.Bool && t != api.Text
}

func rowError(types []int, row []api.Value) api.Errno {
	if len(row) != len(types) {
		return api.ErrArity
	}
	for i, v := range row {
		if !value.Valid(v) || v.Kind != api.Null && v.Kind != types[i] {
			return api.ErrType
		}
	}
	return api.OK
}

func selectTypes(kid []int, cond api.Expr) ([]int, api.Errno) {
	if err := condError(kid, cond); err != api.OK {
		return nil, err
	}
	return kid, api.OK
}

func condError(types []int, cond api.Expr) api.Errno {
	t, err := expression.Type(types, cond)
	if err == api.OK && t != api.Bool {
		return api.ErrType
	}
	return err
}

func projectTypes(kid []int, exprs []api.Expr) ([]int, api.Errno) {
	if !isWidth(len(exprs)) {
		return nil, api.ErrArity
	}
	return typeEach(kid, exprs, expression.Type)
}

func typeEach[T any](over []int, l []T, typeOf func([]int, T) (int, api.Errno)) ([]int, api.Errno) {
	var types []int
	for _, x := range l {
		t, err := typeOf(over, x)
		if err != api.OK {
			return nil, err
		}
		types = append(types, t)
	}
	return types, api.OK
}

func joinTypes(kind int, first, second []int, cond api.Expr) ([]int, api.Errno) {
	if kind < api.JoinInner || kind > api.JoinAnti {
		return nil, api.ErrInvalid
	}
	both := slices.Concat(first, second)
	if len(both) > api.MaxWidth {
		return nil, api.ErrArity
	}
	if err := condError(both, cond); err != api.OK {
		return nil, err
	}
	if kind == api.JoinSemi || kind == api.JoinAnti {
		return first, api.OK
	}
	return both, api.OK
}

func setTypes(first, second []int) ([]int, api.Errno) {
	if !slices.Equal(first, second) {
		return nil, api.ErrType
	}
	return first, api.OK
}

func groupTypes(kid []int, exprs []api.Expr, aggs []api.Agg) ([]int, api.Errno) {
	if !isWidth(len(exprs) + len(aggs)) {
		return nil, api.ErrArity
	}
	keys, err := typeEach(kid, exprs, expression.Type)
	if err != api.OK {
		return nil, err
	}
	rest, err := typeEach(kid, aggs, aggType)
	if err != api.OK {
		return nil, err
	}
	return slices.Concat(keys, rest), api.OK
}

func aggType(types []int, a api.Agg) (int, api.Errno) {
	if a.Fun == api.AggRows {
		return rowsType(a.Arg)
	}
	if a.Fun < api.AggRows || a.Fun > api.AggMax {
		return 0, api.ErrInvalid
	}
	t, err := expression.Type(types, a.Arg)
	if err != api.OK {
		return 0, err
	}
	switch a.Fun {
	case api.AggMin, api.AggMax:
		return t, api.OK
	case api.AggSum:
		if t != api.Int {
			return 0, api.ErrType
		}
	}
	return api.Int, api.OK
}

func rowsType(arg api.Expr) (int, api.Errno) {
	if !isZero(arg) {
		return 0, api.ErrInvalid
	}
	return api.Int, api.OK
}
