package expression

import (
	"querylab/api"
	"querylab/value"
)

// Type is P2.2.
func Type(types []int, e api.Expr) (int, api.Errno) {
	if sizeUpTo(api.MaxNodes, e) > api.MaxNodes {
		return 0, api.ErrLimit
	}
	if Depth(e) > api.MaxDepth {
		return 0, api.ErrDepth
	}
	return typeOf(types, e)
}

// sizeUpTo stops counting above the limit, because an expression whose parts share memory may be far larger than that.
func sizeUpTo(limit int, e api.Expr) int {
	n := 1
	for _, k := range e.Kids {
		if n > limit {
			break
		}
		n += sizeUpTo(limit-n, k)
	}
	return n
}

func typeOf(types []int, e api.Expr) (int, api.Errno) {
	kids := make([]int, 0, len(e.Kids))
	for _, k := range e.Kids {
		t, err := typeOf(types, k)
		if err != api.OK {
			return 0, err
		}
		kids = append(kids, t)
	}
	o, ok := find(e.Op)
	if !ok || !hasOnly(e, o.has) || !permitted(e) {
		return 0, api.ErrInvalid
	}
	if !o.takes(len(kids)) {
		return 0, api.ErrArity
	}
	switch e.Op {
	case api.OpNull:
		return e.Type, api.OK
	case api.OpColumn:
		return columnType(types, e.Column)
	}
	t, ok := o.result(kids)
	if !ok {
		return 0, api.ErrType
	}
	return t, api.OK
}

// hasOnly reports whether all fields other than this one (none, if what the operation has is Kids) are 0 or empty.
func hasOnly(e api.Expr, field int) bool {
	return (e.Type == 0 || field == hasType) &&
		(e.Num == 0 || field == hasNum) &&
		(e.Text == "" || field == hasText) &&
		(e.Column == 0 || field == hasColumn)
}

func permitted(e api.Expr) bool {
	switch e.Op {
	case api.OpNull:
		return isType(e.Type)
	case api.OpInt, api.OpBool, api.OpText:
		return value.Valid(literal(e))
	}
	return true
}

func isType(t int) bool {
	return t == api.Int || t == api.Bool || t == api.Text
}

func columnType(types []int, column int) (int, api.Errno) {
	if column < 0 || column >= len(types) {
		return 0, api.ErrName
	}
	if !isType(types[column]) {
		return 0, api.ErrType
	}
	return types[column], api.OK
}
