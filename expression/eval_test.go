package expression

import (
	"slices"
	"strings"
	"testing"

	"querylab/api"
	"querylab/value"
)

// sampleValues are the values of the row that the tests of Eval use: column n has the n-th one.
func sampleValues() []api.Value {
	return []api.Value{
		{},
		{Kind: api.Int, Num: -3}, {Kind: api.Int}, {Kind: api.Int, Num: 7}, {Kind: api.Int, Num: api.MaxInt},
		{Kind: api.Bool}, {Kind: api.Bool, Num: 1},
		{Kind: api.Text}, {Kind: api.Text, Text: "ab"}, {Kind: api.Text, Text: strings.Repeat("z", api.MaxText)},
		// not valid
		{Num: 4, Text: "n"}, {Kind: api.Int, Num: api.MaxInt + 1}, {Kind: api.Int, Num: 7, Text: "x"}, {Kind: api.Bool, Num: 2}, {Kind: api.Bool, Num: 1, Text: "x"},
		{Kind: api.Text, Text: strings.Repeat("z", 1000)}, {Kind: api.Text, Num: 1, Text: "ab"}, {Kind: 4, Num: 1}, {Kind: -1},
	}
}

func truthOf(holds bool) api.Value {
	if holds {
		return api.Value{Kind: api.Bool, Num: 1}
	}
	return api.Value{Kind: api.Bool}
}

// wantedUnary and wantedBinary are the chapter's table, written down once more.
func wantedUnary() map[int]func(a api.Value) api.Value {
	return map[int]func(a api.Value) api.Value{
		api.OpNeg: func(a api.Value) api.Value { return value.Arith(api.OpSub, api.Value{Kind: api.Int}, a) },
		api.OpLength: func(a api.Value) api.Value {
			if a.Kind == api.Text {
				return api.Value{Kind: api.Int, Num: int64(len(a.Text))}
			}
			return api.Value{}
		},
		api.OpIsNull: func(a api.Value) api.Value { return truthOf(a.Kind == api.Null) },
		api.OpNot:    value.Not,
		api.OpIsTrue: func(a api.Value) api.Value { return truthOf(a.Kind == api.Bool && a.Num == 1) },
	}
}

func wantedBinary() map[int]func(a, b api.Value) api.Value {
	m := map[int]func(a, b api.Value) api.Value{
		api.OpEq:   value.Equal,
		api.OpNe:   func(a, b api.Value) api.Value { return value.Not(value.Equal(a, b)) },
		api.OpLt:   value.Less,
		api.OpLe:   func(a, b api.Value) api.Value { return value.Not(value.Less(b, a)) },
		api.OpGt:   func(a, b api.Value) api.Value { return value.Less(b, a) },
		api.OpGe:   func(a, b api.Value) api.Value { return value.Not(value.Less(a, b)) },
		api.OpSame: func(a, b api.Value) api.Value { return truthOf(a == b) },
		api.OpAnd:  value.And,
		api.OpOr:   value.Or,
		api.OpCoalesce: func(a, b api.Value) api.Value {
			if a.Kind == api.Null {
				return b
			}
			return a
		},
		api.OpIn: value.Equal,
	}
	for _, o := range []int{api.OpAdd, api.OpSub, api.OpMul, api.OpDiv, api.OpMod, api.OpConcat} {
		m[o] = func(a, b api.Value) api.Value { return value.Arith(o, a, b) }
	}
	return m
}

func TestEvalOfUnaryAndBinaryOperations(t *testing.T) {
	row := sampleValues()
	for i, a := range row {
		for o, wanted := range wantedUnary() {
			if got := Eval(op(o, col(i)), row); got != wanted(a) {
				t.Errorf("%s for %v is %v", Text(op(o, col(i))), a, got)
			}
		}
		for k, b := range row {
			for o, wanted := range wantedBinary() {
				if got := Eval(op(o, col(i), col(k)), row); got != wanted(a, b) {
					t.Errorf("%s for %v, %v is %v", Text(op(o, col(i), col(k))), a, b, got)
				}
			}
		}
	}
}

func TestEvalOfCaseAndIn(t *testing.T) {
	row := sampleValues()
	for i, a := range row {
		for k, b := range row {
			for l, c := range row {
				want := c
				if a.Kind == api.Bool && a.Num == 1 {
					want = b
				}
				if got := Eval(op(api.OpCase, col(i), col(k), col(l)), row); got != want {
					t.Errorf("case of %v, %v, %v is %v", a, b, c, got)
				}
				want = value.Or(value.Equal(a, b), value.Equal(a, c))
				if got := Eval(op(api.OpIn, col(i), col(k), col(l)), row); got != want {
					t.Errorf("in of %v, %v, %v is %v", a, b, c, got)
				}
			}
		}
	}
	for _, c := range []struct {
		e    api.Expr
		want string
	}{
		{op(api.OpIn, num(5), num(1), num(2), num(3), num(5)), "true"},
		{op(api.OpIn, num(5), num(1), num(2), num(3), num(4)), "false"},
		{op(api.OpIn, num(5), num(5), null(api.Int), num(3), num(4)), "true"},
		{op(api.OpIn, num(5), num(1), null(api.Int), num(3), num(5)), "true"},
		{op(api.OpIn, num(5), num(1), null(api.Int), num(3), num(4)), "null"},
		{op(api.OpIn, null(api.Int), num(1), num(2), null(api.Int)), "null"},
		{op(api.OpIn, num(5), op(api.OpIn, num(1), num(1)), op(api.OpAdd, num(2), num(3))), "true"},
	} {
		if got := value.Text(Eval(c.e, nil)); got != c.want {
			t.Errorf("%s is %s", Text(c.e), got)
		}
	}
}

func TestEvalOfLeaves(t *testing.T) {
	row := sampleValues()
	for i, v := range row {
		if got := Eval(col(i), row); got != v {
			t.Errorf("column %d is %v", i, got)
		}
	}
	for _, c := range []struct {
		e    api.Expr
		want api.Value
	}{
		{null(api.Int), api.Value{}},
		{null(0), api.Value{}},
		{api.Expr{Op: api.OpNull, Type: 1, Num: 2, Text: "a", Column: 3}, api.Value{}},
		{num(-5), api.Value{Kind: api.Int, Num: -5}},
		{num(api.MaxInt + 1), api.Value{Kind: api.Int, Num: api.MaxInt + 1}},
		{api.Expr{Op: api.OpInt, Type: 1, Num: 2, Text: "a", Column: 3}, api.Value{Kind: api.Int, Num: 2}},
		{truthValue(1), api.Value{Kind: api.Bool, Num: 1}},
		{truthValue(0), api.Value{Kind: api.Bool}},
		{truthValue(-9), api.Value{Kind: api.Bool, Num: -9}},
		{api.Expr{Op: api.OpBool, Type: 1, Num: 1, Text: "a", Column: 3}, api.Value{Kind: api.Bool, Num: 1}},
		{str("ab"), api.Value{Kind: api.Text, Text: "ab"}},
		{str("'\x00"), api.Value{Kind: api.Text, Text: "'\x00"}},
		{api.Expr{Op: api.OpText, Type: 1, Num: 2, Text: "a", Column: 3}, api.Value{Kind: api.Text, Text: "a"}},
		{api.Expr{Op: api.OpColumn, Type: 1, Num: 2, Text: "a", Column: 3}, row[3]},
		{col(-1), api.Value{}},
		{col(len(row)), api.Value{}},
		{col(1<<63 - 1), api.Value{}},
		{col(-1 << 63), api.Value{}},
	} {
		if got := Eval(c.e, row); got != c.want {
			t.Errorf("%v is %v", c.e, got)
		}
	}
	if got := Eval(col(0), nil); got != (api.Value{}) {
		t.Errorf("a column of no row is %v", got)
	}
}

func TestEvalOfWrongExpressionsIsNull(t *testing.T) {
	row := sampleValues()
	kids := []api.Expr{truthValue(1), truthValue(1), truthValue(1), truthValue(1)}
	for _, o := range unknownOps() {
		for n := range len(kids) {
			if got := Eval(op(o, kids[:n]...), row); got != (api.Value{}) {
				t.Errorf("operation %d with %d Kids is %v", o, n, got)
			}
		}
	}
	for o := api.OpNull; o <= api.OpIn; o++ {
		for n := range len(kids) + 1 {
			e := api.Expr{Op: o, Num: 1, Kids: kids[:n]}
			if _, err := Type(nil, op(o, kids[:n]...)); o >= api.OpAdd && err != api.ErrArity || o < api.OpAdd && n == 0 {
				continue
			}
			if got := Eval(e, row); got != (api.Value{}) {
				t.Errorf("operation %d with %d Kids is %v", o, n, got)
			}
			if got := Eval(op(api.OpIsNull, e), row); got != truthOf(true) {
				t.Errorf("isnull of operation %d with %d Kids is %v", o, n, got)
			}
		}
	}
}

func TestEvalOfExamples(t *testing.T) {
	row := []api.Value{{Kind: api.Int, Num: 7}, {}, {Kind: api.Text, Text: "ab"}}
	for _, c := range []struct {
		e    api.Expr
		want string
	}{
		{op(api.OpAnd, null(api.Bool), op(api.OpLt, col(0), num(5))), "false"},
		{op(api.OpSub, op(api.OpMul, col(0), num(3)), op(api.OpLength, col(2))), "19"},
		{op(api.OpDiv, op(api.OpNeg, col(0)), num(2)), "-3"},
		{op(api.OpMod, op(api.OpNeg, col(0)), num(2)), "-1"},
		{op(api.OpDiv, col(0), num(0)), "null"},
		{op(api.OpNeg, col(1)), "null"},
		{op(api.OpConcat, col(2), op(api.OpCase, op(api.OpIsNull, col(1)), str("-"), col(2))), "'ab-'"},
		{op(api.OpCase, op(api.OpEq, col(1), num(1)), num(2), num(3)), "3"},
		{op(api.OpCoalesce, col(1), op(api.OpAdd, col(0), num(1))), "8"},
		{op(api.OpIsTrue, op(api.OpOr, op(api.OpGt, col(1), num(1)), op(api.OpGe, col(0), num(7)))), "true"},
		{op(api.OpSame, col(1), null(api.Int)), "true"},
		{op(api.OpEq, col(1), null(api.Int)), "null"},
	} {
		if got := value.Text(Eval(c.e, row)); got != c.want {
			t.Errorf("%s is %s", Text(c.e), got)
		}
	}
}

// TestEvalGivesValuesOfTheType goes through all operations whose Kids are leaves, or operations over leaves.
func TestEvalGivesValuesOfTheType(t *testing.T) {
	types := []int{api.Int, api.Bool, api.Text, api.Int}
	leaves := []api.Expr{col(0), col(1), col(2), col(3), null(api.Bool), num(0)}
	inner := slices.Clone(leaves)
	forOperations(leaves, func(e api.Expr) {
		if _, err := Type(types, e); err == api.OK && len(e.Kids) < 3 {
			inner = append(inner, e)
		}
	})
	rows := [][]api.Value{
		{{Kind: api.Int, Num: api.MaxInt}, {Kind: api.Bool, Num: 1}, {Kind: api.Text, Text: strings.Repeat("a", 20)}, {}},
		{{Kind: api.Int, Num: -7}, {}, {Kind: api.Text}, {Kind: api.Int, Num: 2}},
	}
	checked := 0
	forOperations(inner, func(e api.Expr) {
		want, err := Type(types, e)
		if err != api.OK {
			return
		}
		checked++
		for _, row := range rows {
			if got := Eval(e, row); !value.Valid(got) || got.Kind != api.Null && got.Kind != want {
				t.Errorf("%s of type %d is %v for %v", Text(e), want, got, row)
			}
		}
	})
	if checked < 1000 {
		t.Errorf("only %d expressions were checked", checked)
	}
}

// forOperations calls its function for each operation with one or two of the Kids, and for some with three.
func forOperations(kids []api.Expr, f func(e api.Expr)) {
	for o := api.OpAdd; o <= api.OpIn; o++ {
		for i, a := range kids {
			f(op(o, a))
			for k, b := range kids {
				f(op(o, a, b))
				f(op(o, a, b, kids[(i+k)%len(kids)]))
			}
		}
	}
}

func TestEvalLeavesArgumentsAlone(t *testing.T) {
	row, e := sampleValues(), op(api.OpIn, col(3), col(1), op(api.OpNeg, col(1)))
	Eval(e, row)
	if !slices.Equal(row, sampleValues()) || Text(e) != "in($3, $1, neg($1))" {
		t.Errorf("the arguments were changed: %v, %v", e, row)
	}
}
