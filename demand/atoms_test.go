package demand

import (
	"math/rand/v2"
	"slices"
	"testing"

	"querylab/api"
	"querylab/expression"
	"querylab/region"
)

func atom(column, op int, v api.Value) api.Atom {
	return api.Atom{Column: column, Op: op, Value: v}
}

// shifted is an atom of the table at a place of a chain, and its expression over the columns of the chain.
type shifted struct {
	place int
	atom  api.Atom
	expr  api.Expr
}

// suiting lists the atoms of all places of a chain whose constants are among these.
func suiting(s api.Schema, chain []int, constants ...api.Value) []shifted {
	var l []shifted
	first := 0
	for place, table := range chain {
		t := s.Tables[table]
		for c := range t.Columns {
			for o := range 30 {
				for _, v := range append(constants, null) {
					if a := atom(c, o, v); region.Suits(t, a) {
						l = append(l, shifted{place, a, expression.Shift(region.Expr(a), first)})
					}
				}
			}
		}
		first += len(t.Columns)
	}
	return l
}

// wantedAtoms hands over the atoms of a condition, as far as they are among those of a list, and reports whether there is nothing else.
func wantedAtoms(l []shifted, e api.Expr, found func(shifted)) bool {
	for _, a := range l {
		if expression.Same(a.expr, e) {
			found(a)
			return true
		}
	}
	kids := map[int]int{api.OpAnd: 2, api.OpOr: 2, api.OpNot: 1}[e.Op]
	if kids == 0 || len(e.Kids) != kids || e.Type != 0 || e.Num != 0 || e.Text != "" || e.Column != 0 {
		return false
	}
	return !slices.ContainsFunc(e.Kids, func(k api.Expr) bool { return !wantedAtoms(l, k, found) })
}

func checkAtoms(t *testing.T, s api.Schema, v api.View, l []shifted) bool {
	t.Helper()
	chain, _ := Tables(s, v)
	want := make([][]api.Atom, len(chain))
	ok := wantedAtoms(l, v.Cond[0], func(a shifted) { want[a.place] = append(want[a.place], a.atom) })
	for k := range want {
		slices.SortFunc(want[k], region.Compare)
		want[k] = slices.Compact(want[k])
	}
	if !ok {
		want = nil
	}
	if got, gotOK := Atoms(s, v); gotOK != ok || !slices.EqualFunc(got, want, slices.Equal) {
		t.Fatalf("%s: %v, %v, and not %v, %v", expression.Text(v.Cond[0]), got, gotOK, want, ok)
	}
	return ok
}

// predicate makes a random condition of the atoms of a list.
func predicate(r *rand.Rand, l []shifted, depth int) api.Expr {
	switch o := r.IntN(4); {
	case depth == 0 || o == 0:
		return l[r.IntN(len(l))].expr
	case o == 1:
		return op(api.OpNot, predicate(r, l, depth-1))
	default:
		return op(api.OpAnd+o-2, predicate(r, l, depth-1), predicate(r, l, depth-1))
	}
}

// disturb changes one thing of one expression within e.
func disturb(r *rand.Rand, e api.Expr) api.Expr {
	e.Kids = slices.Clone(e.Kids)
	if n := len(e.Kids); n > 0 && r.IntN(3) > 0 {
		k := r.IntN(n)
		e.Kids[k] = disturb(r, e.Kids[k])
		return e
	}
	switch r.IntN(8) {
	case 0:
		e.Type++
	case 1:
		e.Num++
	case 2:
		e.Text += "x"
	case 3:
		e.Column += r.IntN(5) - 2
	case 4:
		e.Kids = append(e.Kids, lit(5))
	case 5:
		e.Kids = e.Kids[:len(e.Kids)/2]
	case 6:
		e.Op = r.IntN(30)
	case 7:
		slices.Reverse(e.Kids)
	}
	return e
}

func chains() []api.View {
	return []api.View{view("orders", nil), view("orders", []int{0}), view("orders", []int{1, 0, 0}), view("customers", []int{0}), view("cities", []int{0}), view("countries", nil)}
}

func TestAtomsOfConditions(t *testing.T) {
	constants := []api.Value{num(0), num(5), num(-5), num(api.MaxInt), yes, no, text(""), text("a")}
	others := []api.Value{num(1), num(6), num(-4), text("x"), text("ax")} // what disturbed constants may be
	accepted, refused := 0, 0
	r := rand.New(rand.NewPCG(1, 14))
	for _, v := range chains() {
		chain, _ := Tables(shop(), v)
		l, wider := suiting(shop(), chain, constants...), suiting(shop(), chain, slices.Concat(constants, others)...)
		for range 1000 {
			e := predicate(r, l, 4)
			v.Cond = []api.Expr{e}
			if !checkAtoms(t, shop(), v, l) {
				t.Fatalf("%s has no atoms", expression.Text(e))
			}
			v.Cond = []api.Expr{disturb(r, e)}
			if checkAtoms(t, shop(), v, wider) {
				accepted++
			} else {
				refused++
			}
		}
	}
	if accepted < 300 || refused < 2000 {
		t.Errorf("%d, %d", accepted, refused)
	}
}

func TestAtoms(t *testing.T) {
	age := op(api.OpGe, col(6), lit(18))
	name := op(api.OpEq, col(11), str("Ulm"))
	for _, c := range []struct {
		v    api.View
		want [][]api.Atom
	}{
		{view("orders", nil), [][]api.Atom{nil}},
		{view("orders", []int{1, 0, 0}), [][]api.Atom{nil, nil, nil, nil}},
		{view("orders", nil, few()), [][]api.Atom{{atom(0, api.OpLt, num(5))}}},
		{view("orders", []int{0}, few()), [][]api.Atom{{atom(0, api.OpLt, num(5))}, nil}},
		{view("orders", []int{0}, age), [][]api.Atom{nil, {atom(0, api.OpGe, num(18))}}},
		{view("orders", []int{1, 0}, op(api.OpOr, op(api.OpNot, name), op(api.OpAnd, col(13), op(api.OpOr, op(api.OpAnd, age, op(api.OpIsNull, col(6))), op(api.OpAnd, few(), age))))), [][]api.Atom{
			{atom(0, api.OpLt, num(5))},
			{atom(0, api.OpGe, num(18)), atom(0, api.OpIsNull, null)},
			{atom(1, api.OpEq, text("Ulm")), atom(3, api.OpColumn, null)},
		}},
		{view("orders", []int{0}, op(api.OpAnd, op(api.OpEq, col(0), lit(5)), op(api.OpAnd, op(api.OpEq, col(6), lit(4)), op(api.OpEq, col(0), lit(4))))), [][]api.Atom{{atom(0, api.OpEq, num(4)), atom(0, api.OpEq, num(5))}, {atom(0, api.OpEq, num(4))}}},
	} {
		if got, ok := Atoms(shop(), c.v); !ok || !slices.EqualFunc(got, c.want, slices.Equal) {
			t.Errorf("%v: %v, %v", c.v, got, ok)
		}
	}
}

func TestNoAtoms(t *testing.T) {
	for name, v := range map[string]api.View{
		"no table":           view("order", nil),
		"no table, cond":     view("order", nil, few()),
		"no foreign key":     view("orders", []int{2}, few()),
		"primary key":        view("orders", []int{0}, op(api.OpEq, col(7), lit(1))),
		"foreign key":        view("orders", []int{0}, op(api.OpEq, col(8), lit(1))),
		"other foreign key":  view("orders", []int{0}, op(api.OpEq, col(1), lit(1))),
		"later table":        view("orders", nil, age()),
		"behind the columns": view("orders", []int{0}, op(api.OpIsNull, col(10))),
		"before the columns": view("orders", []int{0}, op(api.OpIsNull, col(-1))),
		"another table":      view("orders", []int{0}, op(api.OpEq, col(0), col(6))),
		"type":               view("orders", []int{0}, op(api.OpEq, col(6), str("a"))),
		"part":               view("orders", []int{0}, op(api.OpAnd, few(), op(api.OpNot, op(api.OpIsTrue, col(9))))),
		"second condition":   view("orders", []int{0}, few(), lit(1)),
	} {
		if l, ok := Atoms(shop(), v); ok || l != nil {
			t.Errorf("%s: %v, %v", name, l, ok)
		}
	}
}

func age() api.Expr { return op(api.OpGe, col(6), lit(18)) }

// TestAtomsOfTwoConditions has what only Valid refuses.
func TestAtomsOfTwoConditions(t *testing.T) {
	l, ok := Atoms(shop(), view("orders", []int{0}, op(api.OpAnd, age(), few()), op(api.OpOr, op(api.OpEq, col(0), lit(1)), few())))
	if !ok || len(l) != 2 || !slices.Equal(l[0], []api.Atom{atom(0, api.OpEq, num(1)), atom(0, api.OpLt, num(5))}) || !slices.Equal(l[1], []api.Atom{atom(0, api.OpGe, num(18))}) {
		t.Error(l, ok)
	}
}

// TestAtomsOfOtherSchemas has tables whose keys are wrong.
func TestAtomsOfOtherSchemas(t *testing.T) {
	s := circle()
	s.Tables[0].Primary, s.Tables[1].Uniques = []int{2, 3, -1, 7}, [][]int{{1, -2}}
	v := view("a", []int{1, 0}, op(api.OpAnd, op(api.OpEq, col(2), lit(1)), op(api.OpOr, col(4), op(api.OpIsNull, col(1)))))
	l, ok := Atoms(s, v)
	if !ok || len(l) != 3 || !slices.Equal(l[0], []api.Atom{atom(1, api.OpIsNull, null)}) || !slices.Equal(l[1], []api.Atom{atom(0, api.OpEq, num(1))}) || !slices.Equal(l[2], []api.Atom{atom(0, api.OpColumn, null)}) {
		t.Error(l, ok)
	}
	s.Tables[1].Uniques = [][]int{{0}}
	if l, ok := Atoms(s, v); ok || l != nil {
		t.Error(l, ok)
	}
	if l, ok := Atoms(s, view("c", nil, few())); ok || l != nil {
		t.Error(l, ok)
	}
}
