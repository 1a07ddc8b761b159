package value

import "querylab/api"

// Arith is P1.6.
func Arith(op int, a, b api.Value) api.Value {
	if !Valid(a) || !Valid(b) {
		return api.Value{}
	}
	if op == api.OpConcat {
		return concat(a, b)
	}
	if a.Kind != api.Int || b.Kind != api.Int {
		return api.Value{}
	}
	n, ok := compute(op, a.Num, b.Num)
	if !ok {
		return api.Value{}
	}
	return validOrNull(api.Value{Kind: api.Int, Num: n})
}

func concat(a, b api.Value) api.Value {
	if a.Kind != api.Text || b.Kind != api.Text {
		return api.Value{}
	}
	return validOrNull(api.Value{Kind: api.Text, Text: a.Text + b.Text})
}

func validOrNull(v api.Value) api.Value {
	if !Valid(v) {
		return api.Value{}
	}
	return v
}

// compute expects operands of at most MaxInt, so that sums and differences fit into an int64.
func compute(op int, a, b int64) (int64, bool) {
	switch op {
	case api.OpAdd:
		return a + b, true
	case api.OpSub:
		return a - b, true
	case api.OpMul:
		return multiply(a, b)
	}
	if b == 0 {
		return 0, false
	}
	switch op {
	case api.OpDiv:
		return a / b, true
	case api.OpMod:
		return a % b, true
	}
	return 0, false
}

// multiply divides before it multiplies because a product of two valid numbers may exceed an int64.
func multiply(a, b int64) (int64, bool) {
	if b != 0 && magnitude(a) > api.MaxInt/magnitude(b) {
		return 0, false
	}
	return a * b, true
}

func magnitude(n int64) int64 {
	if n < 0 {
		return -n
	}
	return n
}
