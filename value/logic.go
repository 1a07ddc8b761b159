package value

import "querylab/api"

// The truths of a value. The unknown one lies outside of what Bool makes a truth value of.
const (
	isFalse = 0
	isTrue  = 1
	unknown = 2
)

// Truth is P1.3.
func Truth(v api.Value) int {
	if v.Kind != api.Bool {
		return unknown
	}
	if v.Num == 1 {
		return isTrue
	}
	return isFalse
}

// Bool is P1.3.
func Bool(n int) api.Value {
	if n == isTrue || n == isFalse {
		return api.Value{Kind: api.Bool, Num: int64(n)}
	}
	return api.Value{}
}

// And is P1.5.
func And(a, b api.Value) api.Value {
	return decide(isFalse, Truth(a), Truth(b))
}

// Or is P1.5.
func Or(a, b api.Value) api.Value {
	return decide(isTrue, Truth(a), Truth(b))
}

// decide joins two truths of which a single one with the truth decisive settles the result, whatever the other one is.
func decide(decisive, a, b int) api.Value {
	if a == decisive || b == decisive {
		return Bool(decisive)
	}
	if a == unknown || b == unknown {
		return api.Value{}
	}
	return Bool(1 - decisive)
}

// Not is P1.5.
func Not(a api.Value) api.Value {
	t := Truth(a)
	if t == unknown {
		return api.Value{}
	}
	return Bool(1 - t)
}
