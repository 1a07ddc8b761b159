package region

import (
	"math"
	"math/rand/v2"
	"reflect"
	"slices"
	"testing"

	"querylab/api"
	"querylab/expression"
	"querylab/value"
)

// someValues lists valid values of each type, and the null value.
func someValues() []api.Value {
	return []api.Value{null, num(0), num(5), num(-5), num(api.MaxInt), num(-api.MaxInt), no, yes, text(""), text("a"), text("5")}
}

// wanted is the chapter's word on whether an atom suits a table in which its column is free and has this type.
func wanted(columnType int, a api.Atom) bool {
	of := func(t int) bool { return columnType == t && a.Value.Kind == t && value.Valid(a.Value) }
	switch a.Op {
	case api.OpEq, api.OpNe:
		return of(api.Int) || of(api.Bool) || of(api.Text)
	case api.OpLt, api.OpLe, api.OpGt, api.OpGe:
		return of(api.Int)
	case api.OpIsNull:
		return reflect.ValueOf(a.Value).IsZero()
	case api.OpColumn:
		return reflect.ValueOf(a.Value).IsZero() && columnType == api.Bool
	}
	return false
}

func TestSuits(t *testing.T) {
	free := map[int][]int{orders: {0, 2, 5}, customers: {0}, cities: {1, 2}}
	for k, table := range shop().Tables {
		for _, column := range []int{-1, 0, 1, 2, 3, 4, 5, 6, math.MinInt, math.MaxInt} {
			for _, o := range []int{-1, 0, 1, 2, 3, 4, 5, 6, 12, 13, 14, 15, 16, 17, 18, 19, 20, 21, 22, 23, 24, 25, 26, 27, 28, 29, 1<<32 + api.OpEq} {
				for _, v := range append(someValues(), invalid()...) {
					a := atom(column, o, v)
					want := slices.Contains(free[k], column) && wanted(table.Columns[column].Type, a)
					if got := Suits(table, a); got != want {
						t.Errorf("%s, %v: %v", table.Name, a, got)
					}
				}
			}
		}
	}
}

// TestSuitsOtherTables has tables that no plain schema has.
func TestSuitsOtherTables(t *testing.T) {
	table := api.Table{Columns: []api.Column{{Type: api.Int}, {Type: api.Int}, {Type: api.Int}, {Type: api.Text}, {Type: 9}}, Primary: []int{0, -1, 7}, Uniques: [][]int{nil, {9, 1}}, Foreigns: []api.Foreign{{}, {Columns: []int{8, 2}}}}
	for column, want := range []bool{false, false, false, true, true, false} {
		if got := Suits(table, atom(column, api.OpIsNull, null)); got != want {
			t.Errorf("%d: %v", column, got)
		}
	}
	untyped := api.Table{Columns: []api.Column{{}}}
	if Suits(table, atom(4, api.OpEq, api.Value{Kind: 9})) || Suits(untyped, atom(0, api.OpEq, null)) || Suits(api.Table{}, atom(0, api.OpIsNull, null)) {
		t.Error("a column without a type, or none, has atoms")
	}
	if !Suits(table, atom(3, api.OpNe, text("a"))) {
		t.Error("a free column has none")
	}
}

func TestExpr(t *testing.T) {
	for _, c := range []struct {
		a    api.Atom
		want api.Expr
	}{
		{atom(3, api.OpColumn, null), col(3)},
		{atom(3, api.OpColumn, num(5)), col(3)},
		{atom(2, api.OpIsNull, null), op(api.OpIsNull, col(2))},
		{atom(2, api.OpIsNull, num(5)), op(api.OpIsNull, col(2))},
		{atom(1, api.OpEq, num(-5)), op(api.OpEq, col(1), lit(-5))},
		{atom(0, api.OpNe, text("a")), op(api.OpNe, col(0), api.Expr{Op: api.OpText, Text: "a"})},
		{atom(0, api.OpLt, num(api.MaxInt+1)), op(api.OpLt, col(0), lit(api.MaxInt+1))},
		{atom(0, api.OpLe, num(5)), op(api.OpLe, col(0), lit(5))},
		{atom(0, api.OpGt, num(5)), op(api.OpGt, col(0), lit(5))},
		{atom(-7, api.OpGe, yes), op(api.OpGe, col(-7), api.Expr{Op: api.OpBool, Num: 1})},
		{atom(0, api.OpEq, null), op(api.OpEq, col(0), api.Expr{Op: api.OpNull})},
		{atom(0, api.OpEq, api.Value{Kind: 9, Num: 1}), op(api.OpEq, col(0), api.Expr{Op: api.OpNull})},
		{atom(4, api.OpSame, num(1)), op(api.OpSame, col(4), lit(1))},
		{atom(4, api.OpNot, num(1)), op(api.OpNot, col(4), lit(1))},
		{atom(4, 0, null), op(0, col(4), api.Expr{Op: api.OpNull})},
		{atom(4, -9, num(1)), op(-9, col(4), lit(1))},
	} {
		if got := Expr(c.a); !expression.Same(got, c.want) {
			t.Errorf("%v: %v", c.a, got)
		}
	}
}

func TestCompare(t *testing.T) {
	ascending := []api.Atom{
		atom(math.MinInt, 99, yes), atom(-1, 21, num(1)), atom(0, math.MinInt, text("z")), atom(0, 5, text("a")), atom(0, 14, null), atom(0, 14, api.Value{Text: "a"}), atom(0, 14, num(-5)), atom(0, 14, num(5)), atom(0, 14, yes), atom(0, 14, text("")), atom(0, 14, text("10")), atom(0, 14, text("9")),
		atom(0, 15, num(1)), atom(0, 16, null), atom(0, math.MaxInt, null), atom(1, 5, null), atom(1, 14, num(0)), atom(math.MaxInt, math.MinInt, null),
	}
	for i, a := range ascending {
		for k, b := range ascending {
			want := 0
			if i < k {
				want = -1
			} else if i > k {
				want = 1
			}
			if got := Compare(a, b); got != want {
				t.Errorf("%v, %v: %d", a, b, got)
			}
		}
	}
}

// suiting lists all atoms of a table whose constants are among these, ascending.
func suiting(t api.Table, constants ...api.Value) []api.Atom {
	var l []api.Atom
	for c := range t.Columns {
		for o := range 30 {
			for _, v := range append(constants, null) {
				if Suits(t, atom(c, o, v)) {
					l = append(l, atom(c, o, v))
				}
			}
		}
	}
	slices.SortFunc(l, Compare)
	return l
}

// wantedAtoms appends the atoms of a predicate, as far as they are among those of a list.
func wantedAtoms(found []api.Atom, l []api.Atom, e api.Expr) ([]api.Atom, bool) {
	for _, a := range l {
		if expression.Same(Expr(a), e) {
			return append(found, a), true
		}
	}
	kids := map[int]int{api.OpAnd: 2, api.OpOr: 2, api.OpNot: 1}[e.Op]
	if kids == 0 || len(e.Kids) != kids || e.Type != 0 || e.Num != 0 || e.Text != "" || e.Column != 0 {
		return nil, false
	}
	ok := true
	for _, k := range e.Kids {
		if found, ok = wantedAtoms(found, l, k); !ok {
			return nil, false
		}
	}
	return found, true
}

func checkAtoms(t *testing.T, table api.Table, l []api.Atom, e api.Expr) bool {
	t.Helper()
	want, ok := wantedAtoms(nil, l, e)
	slices.SortFunc(want, Compare)
	want = slices.Compact(want)
	if got, gotOK := Atoms(table, e); gotOK != ok || !slices.Equal(got, want) {
		t.Fatalf("%v: %v, %v, and not %v, %v", e, got, gotOK, want, ok)
	}
	return ok
}

// predicate makes a random predicate of atoms of a list.
func predicate(r *rand.Rand, l []api.Atom, depth int) api.Expr {
	switch o := r.IntN(4); {
	case depth == 0 || o == 0:
		return Expr(l[r.IntN(len(l))])
	case o == 1:
		return op(api.OpNot, predicate(r, l, depth-1))
	default:
		return op(api.OpAnd+o-2, predicate(r, l, depth-1), predicate(r, l, depth-1))
	}
}

// disturb changes one thing of one expression within e.
func disturb(r *rand.Rand, e api.Expr) api.Expr {
	e.Kids = slices.Clone(e.Kids)
	if n := len(e.Kids); n > 0 && r.IntN(3) > 0 {
		k := r.IntN(n)
		e.Kids[k] = disturb(r, e.Kids[k])
		return e
	}
	switch r.IntN(8) {
	case 0:
		e.Type++
	case 1:
		e.Num++
	case 2:
		e.Text += "x"
	case 3:
		e.Column++
	case 4:
		e.Kids = append(e.Kids, lit(5))
	case 5:
		e.Kids = e.Kids[:len(e.Kids)/2]
	case 6:
		e.Op = r.IntN(30)
	case 7:
		slices.Reverse(e.Kids)
	}
	return e
}

func TestAtomsOfPredicates(t *testing.T) {
	accepted, refused := 0, 0
	r := rand.New(rand.NewPCG(1, 13))
	for _, table := range shop().Tables {
		l := suiting(table, someValues()...)
		// disturbed constants are among these
		wider := suiting(table, append(someValues(), num(1), num(6), num(-4), num(1-api.MaxInt), text("x"), text("ax"), text("5x"))...)
		for range 2000 {
			e := predicate(r, l, 4)
			if !checkAtoms(t, table, l, e) {
				t.Fatalf("%s has no atoms", expression.Text(e))
			}
			if checkAtoms(t, table, wider, disturb(r, e)) {
				accepted++
			} else {
				refused++
			}
		}
	}
	if accepted < 200 || refused < 2000 {
		t.Errorf("%d, %d", accepted, refused)
	}
}

func TestAtoms(t *testing.T) {
	table := shop().Tables[orders]
	less, missing := op(api.OpLt, col(0), lit(5)), op(api.OpIsNull, col(5))
	l, ok := Atoms(table, op(api.OpOr, op(api.OpNot, missing), op(api.OpAnd, col(2), op(api.OpOr, less, op(api.OpAnd, less, missing)))))
	if !ok || !slices.Equal(l, []api.Atom{atom(0, api.OpLt, num(5)), atom(2, api.OpColumn, null), atom(5, api.OpIsNull, null)}) {
		t.Error(l, ok)
	}
	deep := less
	for range 10000 {
		deep = op(api.OpNot, deep)
	}
	if l, ok := Atoms(table, deep); !ok || len(l) != 1 {
		t.Error(l, ok)
	}
	for name, e := range map[string]api.Expr{
		"nothing":            {},
		"constant left":      op(api.OpGt, lit(5), col(0)),
		"two columns":        op(api.OpEq, col(0), col(0)),
		"two constants":      op(api.OpEq, lit(5), lit(5)),
		"sum":                op(api.OpEq, col(0), op(api.OpAdd, lit(1), lit(2))),
		"negated constant":   op(api.OpEq, col(0), op(api.OpNeg, lit(1))),
		"null constant":      op(api.OpEq, col(0), api.Expr{Op: api.OpNull, Type: api.Int}),
		"null without type":  op(api.OpEq, col(0), api.Expr{Op: api.OpNull}),
		"truth":              {Op: api.OpBool, Num: 1},
		"same":               op(api.OpSame, col(0), lit(5)),
		"membership":         op(api.OpIn, col(0), lit(5)),
		"is true":            op(api.OpIsTrue, col(2)),
		"no truth":           col(0),
		"key":                op(api.OpLt, col(3), lit(5)),
		"foreign key":        op(api.OpIsNull, col(4)),
		"no column":          op(api.OpIsNull, col(6)),
		"negative column":    op(api.OpIsNull, col(-1)),
		"wrong type":         op(api.OpEq, col(0), api.Expr{Op: api.OpText, Text: "a"}),
		"order of texts":     op(api.OpLt, col(5), api.Expr{Op: api.OpText, Text: "a"}),
		"order of truths":    op(api.OpGe, col(2), api.Expr{Op: api.OpBool}),
		"too large":          op(api.OpEq, col(0), lit(api.MaxInt+1)),
		"apostrophe":         op(api.OpEq, col(5), api.Expr{Op: api.OpText, Text: "'"}),
		"and of one":         op(api.OpAnd, less),
		"or of three":        op(api.OpOr, less, less, less),
		"not of none":        op(api.OpNot),
		"not of two":         op(api.OpNot, less, less),
		"comparison of one":  op(api.OpEq, col(0)),
		"comparison of none": op(api.OpEq),
		"comparison of 3":    op(api.OpEq, col(0), lit(5), lit(5)),
		"null of expression": op(api.OpIsNull, less),
		"not with a column":  {Op: api.OpNot, Column: 1, Kids: []api.Expr{less}},
		"last one":           op(api.OpAnd, less, op(api.OpOr, missing, op(api.OpIsTrue, col(2)))),
		"first one":          op(api.OpAnd, op(api.OpNot, op(api.OpIsTrue, col(2))), less),
		"column with kids":   {Op: api.OpColumn, Column: 2, Kids: []api.Expr{col(2)}},
	} {
		if l, ok := Atoms(table, e); ok || len(l) > 0 {
			t.Errorf("%s: %v, %v", name, l, ok)
		}
	}
	// an empty list of Kids is the same as none
	if l, ok := Atoms(table, op(api.OpIsNull, api.Expr{Op: api.OpColumn, Kids: []api.Expr{}})); !ok || len(l) != 1 {
		t.Error(l, ok)
	}
}
