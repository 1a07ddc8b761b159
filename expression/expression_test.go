package expression

import (
	"math"
	"reflect"
	"slices"
	"testing"

	"querylab/api"
)

func num(n int64) api.Expr { return api.Expr{Op: api.OpInt, Num: n} }

func truthValue(n int64) api.Expr { return api.Expr{Op: api.OpBool, Num: n} }

func str(s string) api.Expr { return api.Expr{Op: api.OpText, Text: s} }

func col(n int) api.Expr { return api.Expr{Op: api.OpColumn, Column: n} }

func null(t int) api.Expr { return api.Expr{Op: api.OpNull, Type: t} }

func op(o int, kids ...api.Expr) api.Expr { return api.Expr{Op: o, Kids: kids} }

// with returns a leaf or an operation to which Kids are given whether it may have them or not.
func with(e api.Expr, kids ...api.Expr) api.Expr {
	e.Kids = kids
	return e
}

// chain returns a chain of operations, so many deep.
func chain(n int) api.Expr {
	e := num(1)
	for range n - 1 {
		e = op(api.OpNeg, e)
	}
	return e
}

// wide returns a membership test with so many expressions, two deep.
func wide(n int) api.Expr {
	kids := make([]api.Expr, n-1)
	for i := range kids {
		kids[i] = num(int64(i))
	}
	return op(api.OpIn, kids...)
}

// unknownOps are numbers of no operation.
func unknownOps() []int {
	return []int{math.MinInt, -5, -1, 0, 29, 30, api.TermName, api.TermAgg, 256 + api.OpAdd, 1<<32 + api.OpAdd, math.MaxInt}
}

func TestSizeAndDepth(t *testing.T) {
	for _, c := range []struct {
		e           api.Expr
		size, depth int
	}{
		{api.Expr{}, 1, 1},
		{num(1), 1, 1},
		{with(num(1), []api.Expr{}...), 1, 1},
		{op(99), 1, 1},
		{op(api.OpNeg, num(1)), 2, 2},
		{op(api.OpAdd, num(1), num(2)), 3, 2},
		{op(api.OpAdd, op(api.OpNeg, num(1)), num(2)), 4, 3},
		{op(api.OpAdd, num(1), op(api.OpNeg, num(2))), 4, 3},
		{op(api.OpCase, col(0), op(api.OpNeg, op(api.OpNeg, num(2))), op(api.OpNeg, num(1))), 7, 4},
		{with(num(1), num(2), op(99, num(3))), 4, 3},
		{chain(24), 24, 24},
		{chain(1000), 1000, 1000},
		{wide(200), 200, 2},
		{wide(5000), 5000, 2},
	} {
		if got := Size(c.e); got != c.size {
			t.Errorf("Size of %s is %d", Text(c.e), got)
		}
		if got := Depth(c.e); got != c.depth {
			t.Errorf("Depth of %s is %d", Text(c.e), got)
		}
	}
}

func TestColumns(t *testing.T) {
	for _, c := range []struct {
		e    api.Expr
		want []int
	}{
		{num(1), nil},
		{api.Expr{Op: api.OpInt, Column: 3}, nil},
		{api.Expr{Op: 99, Column: 3}, nil},
		{col(0), []int{0}},
		{col(7), []int{7}},
		{op(api.OpAdd, col(2), col(1)), []int{1, 2}},
		{op(api.OpAdd, col(2), col(2)), []int{2}},
		{op(api.OpIn, col(5), col(10), op(api.OpNeg, col(5)), col(9), op(api.OpAdd, col(0), col(10))), []int{0, 5, 9, 10}},
		{with(col(4), col(3), num(1)), []int{3, 4}},
		{op(99, with(num(1), col(6))), []int{6}},
		{op(api.OpAdd, col(0), col(-1)), []int{-1, 0}},
		{op(api.OpAdd, col(math.MaxInt), col(math.MinInt)), []int{math.MinInt, math.MaxInt}},
	} {
		if got := Columns(c.e); !slices.Equal(got, c.want) {
			t.Errorf("Columns of %s is %v", Text(c.e), got)
		}
	}
}

func TestShift(t *testing.T) {
	e := op(api.OpAnd, api.Expr{Op: 99, Column: 3}, op(api.OpIn, col(2), with(col(0), col(1)), num(7)))
	for _, by := range []int{0, 3, -1, -5} {
		want := op(api.OpAnd, api.Expr{Op: 99, Column: 3}, op(api.OpIn, col(2+by), with(col(by), col(1+by)), num(7)))
		if got := Shift(e, by); !reflect.DeepEqual(got, want) {
			t.Errorf("Shift by %d is %v", by, got)
		}
	}
	for _, leaf := range []api.Expr{null(api.Text), num(5), truthValue(1), str("a"), {Op: api.OpLength, Type: 1, Num: 2, Text: "b", Column: 3}} {
		if !Same(Shift(leaf, 4), leaf) {
			t.Errorf("Shift changes %v", leaf)
		}
	}
}

func TestShiftMakesNewMemory(t *testing.T) {
	fresh := func() api.Expr { return op(api.OpAdd, col(1), op(api.OpNeg, col(2))) }
	for _, by := range []int{0, 1} {
		e := fresh()
		s := Shift(e, by)
		if !Same(e, fresh()) {
			t.Fatalf("the argument was changed: %v", e)
		}
		e.Kids[0], e.Kids[1].Kids[0] = num(7), num(8)
		if !Same(s, op(api.OpAdd, col(1+by), op(api.OpNeg, col(2+by)))) {
			t.Errorf("the result shares memory with the argument: %v", s)
		}
	}
}

func TestSameComparesAllFields(t *testing.T) {
	different := []api.Expr{
		{}, {Op: 1}, {Type: 1}, {Num: 1}, {Text: "a"}, {Column: 1}, {Kids: []api.Expr{{}}}, {Kids: []api.Expr{{}, {}}}, {Kids: []api.Expr{{Num: 1}}}, {Kids: []api.Expr{{Num: 1}, {}}}, {Kids: []api.Expr{{}, {Num: 1}}}, {Kids: []api.Expr{{Kids: []api.Expr{{}}}}},
	}
	for i, a := range different {
		for k, b := range different {
			if got := Same(a, Shift(b, 0)); got != (i == k) {
				t.Errorf("Same(%v, %v) is %v", a, b, got)
			}
		}
	}
	if !Same(op(api.OpAdd, with(num(1), []api.Expr{}...)), op(api.OpAdd, api.Expr{Op: api.OpInt, Num: 1, Kids: []api.Expr{}})) || !Same(api.Expr{Kids: []api.Expr{}}, api.Expr{}) {
		t.Error("a nil list is not the same as an empty one")
	}
}

func TestConstant(t *testing.T) {
	for _, c := range []struct {
		v    api.Value
		t    int
		want api.Expr
	}{
		{api.Value{}, api.Int, null(api.Int)},
		{api.Value{}, api.Text, null(api.Text)},
		{api.Value{}, 0, null(0)},
		{api.Value{}, 77, null(77)},
		{api.Value{Num: 5, Text: "a"}, api.Bool, null(api.Bool)},
		{api.Value{Kind: 4}, api.Text, null(api.Text)},
		{api.Value{Kind: -1, Num: 5, Text: "a"}, -3, null(-3)},
		{api.Value{Kind: api.Int, Num: -5}, api.Int, num(-5)},
		{api.Value{Kind: api.Int, Num: 5}, api.Text, num(5)},
		{api.Value{Kind: api.Int, Num: math.MinInt64, Text: "a"}, api.Int, num(math.MinInt64)},
		{api.Value{Kind: api.Bool}, api.Bool, truthValue(0)},
		{api.Value{Kind: api.Bool, Num: 1}, api.Int, truthValue(1)},
		{api.Value{Kind: api.Bool, Num: 2}, api.Bool, truthValue(2)},
		{api.Value{Kind: api.Text}, api.Text, str("")},
		{api.Value{Kind: api.Text, Text: "ab"}, api.Int, str("ab")},
		{api.Value{Kind: api.Text, Num: 3, Text: "'"}, 0, str("'")},
	} {
		if got := Constant(c.v, c.t); !Same(got, c.want) {
			t.Errorf("Constant(%v, %d) is %v", c.v, c.t, got)
		}
	}
}
