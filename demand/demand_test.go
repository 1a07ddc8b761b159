package demand

import (
	"math"
	"reflect"
	"slices"
	"testing"

	"querylab/api"
	"querylab/bind"
	"querylab/expression"
)

type row = []api.Value

var (
	null = api.Value{}
	yes  = api.Value{Kind: api.Bool, Num: 1}
	no   = api.Value{Kind: api.Bool}
)

func num(n int64) api.Value { return api.Value{Kind: api.Int, Num: n} }

func text(s string) api.Value { return api.Value{Kind: api.Text, Text: s} }

func col(k int) api.Expr { return api.Expr{Op: api.OpColumn, Column: k} }

func lit(n int64) api.Expr { return api.Expr{Op: api.OpInt, Num: n} }

func str(s string) api.Expr { return api.Expr{Op: api.OpText, Text: s} }

func op(o int, kids ...api.Expr) api.Expr { return api.Expr{Op: o, Kids: kids} }

func view(table string, path []int, cond ...api.Expr) api.View {
	return api.View{Table: table, Path: path, Cond: cond}
}

// The tables of the shop.
const (
	orders    = 0
	customers = 1
	cities    = 2
	countries = 3
)

// shop is plain: its keys are not the first columns, a table has two keys into one table, and columns of several tables have one name.
func shop() api.Schema {
	s, _, err := bind.Schema("table orders (amount int null, payer int, paid bool null, id int, buyer int, name text, primary (id), foreign (buyer) references customers, foreign (payer) references customers); " +
		"table customers (age int null, id int, city int, vip bool, primary (id), foreign (city) references cities); " +
		"table cities (country int, name text null, id int, t1 bool, primary (id), foreign (country) references countries); " +
		"table countries (id int, name text, primary (id));")
	if err != api.OK {
		panic(err)
	}
	return s
}

// full has as many tables as there may be, each of which references the one before it; a chain may have all of them.
func full() api.Schema {
	var s api.Schema
	for k := range api.MaxTables {
		t := api.Table{Name: string(rune('a' + k)), Columns: []api.Column{{Name: "id", Type: api.Int}, {Name: "x", Type: api.Int}}, Primary: []int{0}}
		if k > 0 {
			t.Columns = append(t.Columns, api.Column{Name: "up", Type: api.Int})
			t.Foreigns = []api.Foreign{{Columns: []int{2}, Table: s.Tables[k-1].Name}}
		}
		s.Tables = append(s.Tables, t)
	}
	return s
}

// circle is not valid: its tables reference themselves, each other and one that does not exist.
func circle() api.Schema {
	return api.Schema{Tables: []api.Table{
		{Name: "a", Columns: []api.Column{{Name: "x", Type: api.Int}, {Name: "y", Type: 9}}, Foreigns: []api.Foreign{{Table: "b"}, {Table: "a"}, {Table: "none"}}},
		{Name: "b", Columns: []api.Column{{Name: "x", Type: api.Bool, Nullable: true}}, Foreigns: []api.Foreign{{Table: "a"}}},
		{Name: "b", Columns: []api.Column{{Name: "z", Type: api.Int}}},
		{Name: "c"},
	}}
}

func TestTables(t *testing.T) {
	long := slices.Repeat([]int{0}, 1000)
	var around []int
	for k := range 1001 {
		around = append(around, k%2)
	}
	for _, c := range []struct {
		s    api.Schema
		v    api.View
		want []int
	}{
		{shop(), view("orders", nil), []int{orders}},
		{shop(), view("cities", []int{}), []int{cities}},
		{shop(), view("orders", []int{0}), []int{orders, customers}},
		{shop(), view("orders", []int{1, 0, 0}), []int{orders, customers, cities, countries}},
		{shop(), view("customers", []int{0}, lit(1), lit(2)), []int{customers, cities}},
		{shop(), view("orders", []int{2}), nil},
		{shop(), view("orders", []int{-1}), nil},
		{shop(), view("orders", []int{0, 1}), nil},
		{shop(), view("countries", []int{0}), nil},
		{shop(), view("orders", []int{0, 0, 0, 0}), nil},
		{shop(), view("orders", []int{math.MaxInt}), nil},
		{shop(), view("orders", []int{math.MinInt, 0}), nil},
		{shop(), view("order", nil), nil},
		{shop(), view("", nil), nil},
		{shop(), view("", []int{0}), nil},
		{api.Schema{}, view("orders", nil), nil},
		{full(), view("f", []int{0, 0, 0, 0, 0}), []int{5, 4, 3, 2, 1, 0}},
		{circle(), view("a", long), around},
		{circle(), view("a", []int{1, 1, 0}), []int{0, 0, 0, 1}},
		{circle(), view("a", []int{2}), nil},
		{circle(), view("a", []int{1, 2, 0}), nil},
		{circle(), view("b", nil), []int{1}},
		{circle(), view("c", nil), []int{3}},
	} {
		got, ok := Tables(c.s, c.v)
		if !slices.Equal(got, c.want) || ok != (c.want != nil) {
			t.Errorf("%v: %v, %v, and not %v", c.v, got, ok, c.want)
		}
		var columns []api.Column
		for _, table := range c.want {
			columns = append(columns, c.s.Tables[table].Columns...)
		}
		if got := Columns(c.s, c.v); !slices.Equal(got, columns) {
			t.Errorf("%v: the columns %v, and not %v", c.v, got, columns)
		}
	}
}

func TestColumns(t *testing.T) {
	var l []string
	for _, c := range Columns(shop(), view("orders", []int{1, 0})) {
		l = append(l, c.Name)
	}
	if !slices.Equal(l, []string{"amount", "payer", "paid", "id", "buyer", "name", "age", "id", "city", "vip", "country", "name", "id", "t1"}) {
		t.Error(l)
	}
	if c := Columns(shop(), view("customers", []int{0}))[5]; c != (api.Column{Name: "name", Type: api.Text, Nullable: true}) {
		t.Error(c)
	}
}

// few is a valid condition over the orders, and over each chain that begins with them.
func few() api.Expr { return op(api.OpLt, col(0), lit(5)) }

func TestValid(t *testing.T) {
	for _, v := range []api.View{
		view("orders", nil),
		view("countries", []int{}),
		view("orders", []int{0, 0, 0}),
		view("orders", nil, few()),
		view("orders", []int{1}, few()),
		view("orders", nil, col(2)),
		view("orders", []int{0}, op(api.OpNot, col(9))),
		view("orders", []int{0, 0}, op(api.OpOr, op(api.OpIsNull, col(11)), op(api.OpAnd, few(), op(api.OpEq, col(6), lit(-3))))),
		view("orders", []int{0, 0, 0}, op(api.OpNe, col(15), str(""))),
	} {
		if err := Valid(shop(), v); err != api.OK {
			t.Errorf("%v: %d", v, err)
		}
	}
	if err := Valid(full(), view("f", []int{0, 0, 0, 0, 0}, op(api.OpEq, col(16), lit(1)))); err != api.OK {
		t.Error(err)
	}
}

// nots puts an expression into so many negations.
func nots(n int, e api.Expr) api.Expr {
	for range n {
		e = op(api.OpNot, e)
	}
	return e
}

// ands is a balanced tree of a number of expressions that is a power of 2.
func ands(n int, e api.Expr) api.Expr {
	if n == 1 {
		return e
	}
	return op(api.OpAnd, ands(n/2, e), ands(n/2, e))
}

// conditions are wrong ones over the orders, in the order of their errors.
func conditions() []struct {
	e   api.Expr
	err api.Errno
} {
	return []struct {
		e   api.Expr
		err api.Errno
	}{
		{ands(64, few()), api.ErrLimit},
		{nots(api.MaxDepth-1, few()), api.ErrDepth},
		{api.Expr{Op: 99}, api.ErrInvalid},
		{op(api.OpNot), api.ErrArity},
		{op(api.OpIsNull, col(6)), api.ErrName},
		{op(api.OpIsNull, col(-1)), api.ErrName},
		{op(api.OpEq, col(0), str("a")), api.ErrType},
		{op(api.OpNot, col(0)), api.ErrType},
		{col(0), api.ErrType},
		{op(api.OpAdd, col(0), lit(1)), api.ErrType},
		{op(api.OpEq, lit(5), col(0)), api.ErrFragment},
		{op(api.OpEq, col(0), col(0)), api.ErrFragment},
		{op(api.OpEq, col(3), lit(5)), api.ErrFragment},
		{op(api.OpIsNull, col(4)), api.ErrFragment},
		{op(api.OpLt, col(5), str("a")), api.ErrFragment},
		{api.Expr{Op: api.OpBool, Num: 1}, api.ErrFragment},
		{op(api.OpIsTrue, col(2)), api.ErrFragment},
		{op(api.OpAnd, few(), op(api.OpSame, col(0), lit(1))), api.ErrFragment},
	}
}

func TestValidErrors(t *testing.T) {
	for _, c := range conditions() {
		if err := Valid(shop(), view("orders", nil, c.e)); err != c.err {
			t.Errorf("%s: %d, and not %d", expression.Text(c.e), err, c.err)
		}
		// an earlier error
		for _, before := range []struct {
			s   api.Schema
			v   api.View
			err api.Errno
		}{
			{shop(), view("orders", nil, c.e, few()), api.ErrLimit},
			{shop(), view("orders", []int{0, 0, 0, 0}, c.e, few()), api.ErrReference},
			{shop(), view("orders", []int{-1}, c.e), api.ErrReference},
			{shop(), view("order", []int{7}, c.e, few()), api.ErrMissing},
			{circle(), view("order", []int{7}, c.e, few()), api.ErrInvalid},
		} {
			if err := Valid(before.s, before.v); err != before.err {
				t.Errorf("%v: %d, and not %d", before.v, err, before.err)
			}
		}
	}
	for k, a := range conditions() {
		for _, b := range conditions()[k:] {
			// both, in both orders: the errors of one condition are in the order of its expressions
			for _, e := range []api.Expr{op(api.OpAnd, a.e, b.e), op(api.OpAnd, b.e, a.e)} {
				_, want := expression.Type([]int{api.Int, api.Int, api.Bool, api.Int, api.Int, api.Text}, e)
				if want == api.OK {
					want = api.ErrFragment
				}
				if err := Valid(shop(), view("orders", nil, e)); err != want {
					t.Errorf("%s: %d, and not %d", expression.Text(e), err, want)
				}
			}
		}
	}
}

func TestValidNeedsAPlainSchema(t *testing.T) {
	for name, change := range map[string]func(s *api.Schema){
		"unique key":        func(s *api.Schema) { s.Tables[countries].Uniques = [][]int{{1}} },
		"check of a key":    func(s *api.Schema) { s.Tables[countries].Checks = []api.Expr{op(api.OpLt, col(0), lit(5))} },
		"missing table":     func(s *api.Schema) { s.Tables[countries].Name = "lands" },
		"foreign key null":  func(s *api.Schema) { s.Tables[orders].Columns[1].Nullable = true },
		"too many tables":   func(s *api.Schema) { s.Tables = append(s.Tables, full().Tables...) },
		"key of two tables": func(s *api.Schema) { s.Tables[orders].Foreigns[1].Columns = []int{4} },
	} {
		s := shop()
		change(&s)
		for _, v := range []api.View{view("countries", nil), view("orders", nil, few()), view("none", nil), view("orders", []int{-1}), view("orders", nil, lit(1), lit(1))} {
			if err := Valid(s, v); err != api.ErrInvalid {
				t.Errorf("%s, %v: %d", name, v, err)
			}
			if n, err := Count(s, goods(), v); err != api.ErrInvalid || n != 0 {
				t.Errorf("%s, %v: the count is %d, %d", name, v, n, err)
			}
			if r, ok := Row(s, goods(), v, 0); ok || r != nil {
				t.Errorf("%s, %v: the row %v", name, v, r)
			}
		}
	}
}

// everything calls all functions with an instance of the shop.
func everything(s api.Schema, i api.Instance, l []api.Demand) {
	Holds(s, i, l)
	Text(s, l)
	for _, d := range l {
		Valid(s, d.View)
		Tables(s, d.View)
		Columns(s, d.View)
		Atoms(s, d.View)
		Count(s, i, d.View)
		for n := range 5 {
			Row(s, i, d.View, n)
		}
	}
}

func TestArgumentsAreLeftAlone(t *testing.T) {
	s, i, l := shop(), goods(), demands()
	everything(s, i, l)
	if !reflect.DeepEqual(s, shop()) || !reflect.DeepEqual(i, goods()) || !reflect.DeepEqual(l, demands()) {
		t.Error("changed")
	}
	// room behind lists, which an append to them would write to
	for k := range s.Tables {
		c := s.Tables[k].Columns
		s.Tables[k].Columns = append(slices.Clone(c), api.Column{Name: "behind"})[:len(c)]
	}
	for k := range i.Tables {
		for n, r := range i.Tables[k] {
			i.Tables[k][n] = append(slices.Clone(r), text("behind"))[:len(r)]
		}
	}
	everything(s, i, l)
	for k := range s.Tables {
		if n := len(s.Tables[k].Columns); s.Tables[k].Columns[: n+1 : n+1][n].Name != "behind" {
			t.Error("changed behind the columns")
		}
		for _, r := range i.Tables[k] {
			if r[:len(r)+1][len(r)] != text("behind") {
				t.Error("changed behind a row")
			}
		}
	}
}

func TestResultsAreNewMemory(t *testing.T) {
	s, i, v := shop(), goods(), view("orders", []int{0}, op(api.OpAnd, few(), op(api.OpNe, col(6), lit(3))))
	for range 2 {
		Columns(s, v)[0].Name = "x"
		Columns(s, view("countries", nil))[0].Name = "x"
		r, _ := Row(s, i, v, 0)
		r[0], r[6] = text("x"), text("x")
		r, _ = Row(s, i, view("countries", nil), 0)
		r[0] = text("x")
		l, _ := Tables(s, v)
		l[0] = 9
		all, _ := Atoms(s, v)
		_ = append(all[0], api.Atom{Column: 9})
		all[1][0].Column = 7
		d, _, _ := Parse(s, "rows 1 of orders.buyer where amount < 5")
		d[0].View.Path[0], d[0].View.Cond[0].Op = 9, 9
	}
	if !reflect.DeepEqual(s, shop()) || !reflect.DeepEqual(i, goods()) {
		t.Error("changed")
	}
	if all, _ := Atoms(s, v); all[1][0] != (api.Atom{Column: 0, Op: api.OpNe, Value: num(3)}) {
		t.Error(all)
	}
}
