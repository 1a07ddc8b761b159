package value

import (
	"math/big"
	"strings"
	"testing"

	"querylab/api"
)

func TestArithCases(t *testing.T) {
	full := strings.Repeat("a", api.MaxText)
	for _, c := range []struct {
		op         int
		a, b, want api.Value
	}{
		{api.OpAdd, num(2), num(3), num(5)},
		{api.OpAdd, num(api.MaxInt - 1), num(1), num(api.MaxInt)},
		{api.OpAdd, num(api.MaxInt), num(1), null},
		{api.OpAdd, num(-api.MaxInt), num(-api.MaxInt), null},
		{api.OpSub, num(2), num(3), num(-1)},
		{api.OpSub, num(-api.MaxInt), num(1), null},
		{api.OpMul, num(-4), num(3), num(-12)},
		{api.OpMul, num(1000000), num(-1000000), num(-api.MaxInt)},
		{api.OpMul, num(1000001), num(1000000), null},
		{api.OpMul, num(api.MaxInt), num(api.MaxInt), null},
		{api.OpMul, num(api.MaxInt), num(0), num(0)},
		{api.OpMul, num(1 << 32), num(1 << 32), null}, // 2^64 is 0 in an int64
		{api.OpDiv, num(7), num(2), num(3)},
		{api.OpDiv, num(-7), num(2), num(-3)},
		{api.OpDiv, num(7), num(-2), num(-3)},
		{api.OpDiv, num(-7), num(-2), num(3)},
		{api.OpDiv, num(1), num(0), null},
		{api.OpDiv, num(0), num(0), null},
		{api.OpDiv, num(0), num(-5), num(0)},
		{api.OpDiv, num(-api.MaxInt), num(-1), num(api.MaxInt)},
		{api.OpMod, num(7), num(2), num(1)},
		{api.OpMod, num(-7), num(2), num(-1)},
		{api.OpMod, num(7), num(-2), num(1)},
		{api.OpMod, num(-7), num(-2), num(-1)},
		{api.OpMod, num(-6), num(3), num(0)},
		{api.OpMod, num(1), num(0), null},
		{api.OpConcat, text("ab"), text("c"), text("abc")},
		{api.OpConcat, text(""), text(""), text("")},
		{api.OpConcat, text(full), text(""), text(full)},
		{api.OpConcat, text(full[1:]), text("b"), text(full[1:] + "b")},
		{api.OpConcat, text(full), text("b"), null},
		{api.OpConcat, text(full), text(full), null},
		{api.OpConcat, num(1), num(2), null},
		{api.OpConcat, text("a"), num(2), null},
		{api.OpConcat, num(1), text("b"), null},
		{api.OpConcat, yes, no, null},
		{api.OpConcat, text("a"), null, null},
		{api.OpConcat, text("'"), text("a"), null},
		{api.OpConcat, text("a"), api.Value{Kind: api.Text, Num: 1, Text: "b"}, null},
		{api.OpAdd, text("a"), text("b"), null},
		{api.OpAdd, num(1), text("b"), null},
		{api.OpAdd, text("a"), num(1), null},
		{api.OpAdd, num(1), yes, null},
		{api.OpAdd, yes, num(1), null},
		{api.OpAdd, yes, yes, null},
		{api.OpAdd, num(1), null, null},
		{api.OpAdd, null, num(1), null},
		{api.OpMul, num(0), null, null},
		{api.OpAdd, num(api.MaxInt + 1), num(-5), null},
		{api.OpAdd, num(-5), num(api.MaxInt + 1), null},
		{api.OpMul, num(0), num(-1 << 63), null},
		{api.OpSub, api.Value{Kind: api.Int, Num: 1, Text: "a"}, num(1), null},
	} {
		if got := Arith(c.op, c.a, c.b); got != c.want {
			t.Errorf("Arith(%d, %v, %v) is %v", c.op, c.a, c.b, got)
		}
	}
}

func TestArithIsExact(t *testing.T) {
	for _, a := range validSamples() {
		for _, b := range validSamples() {
			if a.Kind != api.Int || b.Kind != api.Int {
				continue
			}
			for _, op := range []int{api.OpAdd, api.OpSub, api.OpMul, api.OpDiv, api.OpMod} {
				if got, want := Arith(op, a, b), exact(op, a.Num, b.Num); got != want {
					t.Errorf("Arith(%d, %d, %d) is %v, not %v", op, a.Num, b.Num, got, want)
				}
			}
		}
	}
}

func exact(op int, a, b int64) api.Value {
	x, y, z := big.NewInt(a), big.NewInt(b), new(big.Int)
	switch {
	case op == api.OpAdd:
		z.Add(x, y)
	case op == api.OpSub:
		z.Sub(x, y)
	case op == api.OpMul:
		z.Mul(x, y)
	case b == 0:
		return null
	case op == api.OpDiv:
		z.Quo(x, y)
	case op == api.OpMod:
		z.Rem(x, y)
	}
	if new(big.Int).Abs(z).Cmp(big.NewInt(api.MaxInt)) > 0 {
		return null
	}
	return num(z.Int64())
}

func TestArithKnowsNoOtherOperation(t *testing.T) {
	known := map[int]bool{api.OpAdd: true, api.OpSub: true, api.OpMul: true, api.OpDiv: true, api.OpMod: true, api.OpConcat: true}
	for op := -2; op <= 50; op++ {
		if known[op] {
			continue
		}
		if Arith(op, num(4), num(2)) != null || Arith(op, text("a"), text("b")) != null || Arith(op, yes, yes) != null {
			t.Errorf("operation %d has a result", op)
		}
	}
}

func TestArithIsTotal(t *testing.T) {
	for op := range 30 {
		for _, a := range allSamples() {
			for _, b := range allSamples() {
				got := Arith(op, a, b)
				if !Valid(got) {
					t.Fatalf("Arith(%d, %v, %v) is %v", op, a, b, got)
				}
				if (!Valid(a) || !Valid(b)) && got != null {
					t.Fatalf("Arith(%d, %v, %v) is %v", op, a, b, got)
				}
			}
		}
	}
}
