package expression

import (
	"querylab/api"
	"querylab/value"
)

// Eval is P2.3.
func Eval(e api.Expr, row []api.Value) api.Value {
	o, ok := find(e.Op)
	if !ok || !o.takes(len(e.Kids)) {
		return api.Value{}
	}
	switch e.Op {
	case api.OpColumn:
		return column(e.Column, row)
	case api.OpNull, api.OpInt, api.OpBool, api.OpText:
		return literal(e)
	case api.OpCase:
		return choose(e.Kids, row)
	case api.OpIn:
		return member(e.Kids, row)
	}
	a := Eval(e.Kids[0], row)
	if o.has == hasOne {
		return unary(e.Op, a)
	}
	return binary(e.Op, a, Eval(e.Kids[1], row))
}

func column(n int, row []api.Value) api.Value {
	if n < 0 || n >= len(row) {
		return api.Value{}
	}
	return row[n]
}

// literal returns the value of an operation without Kids, which need not be valid.
func literal(e api.Expr) api.Value {
	switch e.Op {
	case api.OpInt:
		return api.Value{Kind: api.Int, Num: e.Num}
	case api.OpBool:
		return api.Value{Kind: api.Bool, Num: e.Num}
	case api.OpText:
		return api.Value{Kind: api.Text, Text: e.Text}
	}
	return api.Value{}
}

func choose(kids []api.Expr, row []api.Value) api.Value {
	if isTrue(Eval(kids[0], row)) {
		return Eval(kids[1], row)
	}
	return Eval(kids[2], row)
}

func member(kids []api.Expr, row []api.Value) api.Value {
	v := Eval(kids[0], row)
	found := value.Bool(0)
	for _, k := range kids[1:] {
		found = value.Or(found, value.Equal(v, Eval(k, row)))
	}
	return found
}

func unary(op int, a api.Value) api.Value {
	switch op {
	case api.OpNeg:
		return value.Arith(api.OpSub, api.Value{Kind: api.Int}, a)
	case api.OpLength:
		return length(a)
	case api.OpIsNull:
		return truth(isNull(a))
	case api.OpNot:
		return value.Not(a)
	case api.OpIsTrue:
		return truth(isTrue(a))
	}
	return api.Value{}
}

func length(v api.Value) api.Value {
	if v.Kind != api.Text {
		return api.Value{}
	}
	return api.Value{Kind: api.Int, Num: int64(len(v.Text))}
}

func binary(op int, a, b api.Value) api.Value {
	switch op {
	case api.OpEq:
		return value.Equal(a, b)
	case api.OpNe:
		return value.Not(value.Equal(a, b))
	case api.OpLt:
		return value.Less(a, b)
	case api.OpLe:
		return value.Not(value.Less(b, a))
	case api.OpGt:
		return value.Less(b, a)
	case api.OpGe:
		return value.Not(value.Less(a, b))
	case api.OpSame:
		return truth(value.Same(a, b))
	case api.OpAnd:
		return value.And(a, b)
	case api.OpOr:
		return value.Or(a, b)
	case api.OpCoalesce:
		if isNull(a) {
			return b
		}
		return a
	}
	return value.Arith(op, a, b)
}

func isNull(v api.Value) bool {
	return v.Kind == api.Null
}

func isTrue(v api.Value) bool {
	return value.Truth(v) == 1
}

func truth(holds bool) api.Value {
	if holds {
		return value.Bool(1)
	}
	return value.Bool(0)
}
