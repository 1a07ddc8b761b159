package integrity

import (
	"slices"
	"strings"
	"testing"

	"querylab/api"
)

type row = []api.Value

var null = api.Value{}

func num(n int64) api.Value {
	return api.Value{Kind: api.Int, Num: n}
}

func text(s string) api.Value {
	return api.Value{Kind: api.Text, Text: s}
}

func truth(n int64) api.Value {
	return api.Value{Kind: api.Bool, Num: n}
}

func column(k int) api.Expr {
	return api.Expr{Op: api.OpColumn, Column: k}
}

func lit(n int64) api.Expr {
	return api.Expr{Op: api.OpInt, Num: n}
}

func op(o int, kids ...api.Expr) api.Expr {
	return api.Expr{Op: o, Kids: kids}
}

// shop has a table that refers to a later one and to an earlier one, keys of one column and of several in another order than the table's, keys that overlap, and checks that may be unknown.
func shop() api.Schema {
	return api.Schema{Tables: []api.Table{
		{
			Name:    "colours",
			Columns: []api.Column{{Name: "name", Type: api.Text}, {Name: "dark", Type: api.Bool, Nullable: true}},
			Primary: []int{0},
			Checks:  []api.Expr{column(1)},
		},
		{
			Name: "orders",
			Columns: []api.Column{
				{Name: "id", Type: api.Int},
				{Name: "item", Type: api.Int, Nullable: true},
				{Name: "colour", Type: api.Text, Nullable: true},
				{Name: "paid", Type: api.Bool, Nullable: true},
			},
			Primary:  []int{0},
			Uniques:  [][]int{{2, 1}, {1, 3}},
			Foreigns: []api.Foreign{{Columns: []int{2}, Table: "colours"}, {Columns: []int{2, 1}, Table: "items"}},
			Checks:   []api.Expr{op(api.OpLt, column(1), lit(5)), op(api.OpOr, column(3), op(api.OpGt, column(0), lit(1)))},
		},
		{
			Name:     "items",
			Columns:  []api.Column{{Name: "item", Type: api.Int}, {Name: "note", Type: api.Int, Nullable: true}, {Name: "colour", Type: api.Text}},
			Primary:  []int{2, 0},
			Uniques:  [][]int{{1}},
			Foreigns: []api.Foreign{{Columns: []int{2}, Table: "colours"}},
		},
	}}
}

// goods is a valid instance of the shop.
func goods() api.Instance {
	return api.Instance{Tables: [][]row{
		{{text("red"), truth(1)}, {text(""), null}, {text("black"), truth(1)}},
		{{num(4), num(1), text("red"), truth(1)}, {num(2), num(2), text(""), null}, {num(3), num(1), null, null}, {num(-1), null, text("black"), null}},
		{{num(1), null, text("red")}, {num(2), num(7), text("")}, {num(1), null, text("")}, {num(2), num(1), text("red")}},
	}}
}

const (
	colours = 0
	orders  = 1
	items   = 2
)

// with returns goods with other rows in one table.
func with(table int, rows ...row) api.Instance {
	i := goods()
	i.Tables[table] = rows
	return i
}

// expectation is an instance of the shop and what is wrong with it.
type expectation struct {
	name string
	i    api.Instance
	want []api.Violation
}

func checkAll(t *testing.T, l []expectation) {
	t.Helper()
	for _, c := range l {
		got, err := Violations(shop(), c.i)
		if err != api.OK || !slices.Equal(got, c.want) {
			t.Errorf("%s: %v, %d, and not %v", c.name, got, err, c.want)
		}
		if Valid(shop(), c.i) != (len(c.want) == 0) {
			t.Errorf("%s: Valid is %v", c.name, len(c.want) > 0)
		}
	}
}

func TestNothingIsWrong(t *testing.T) {
	checkAll(t, []expectation{
		{"goods", goods(), nil},
		{"no rows", api.Instance{Tables: make([][]row, 3)}, nil},
		{"empty lists", api.Instance{Tables: [][]row{{}, {}, {}}}, nil},
		{"greatest values", api.Instance{Tables: [][]row{{{text(strings.Repeat("~", api.MaxText)), truth(1)}}, nil, {{num(api.MaxInt), num(-api.MaxInt), text(strings.Repeat("~", api.MaxText))}}}}, nil},
	})
}

func TestArity(t *testing.T) {
	checkAll(t, []expectation{
		{"too few", with(orders, row{num(1), null, null}), []api.Violation{{Kind: api.BadArity, Table: orders}}},
		{"too many", with(orders, row{num(1), null, null, null, null}), []api.Violation{{Kind: api.BadArity, Table: orders}}},
		{"none", with(orders, nil, row{}), []api.Violation{{Kind: api.BadArity, Table: orders}, {Kind: api.BadArity, Table: orders, Row: 1}}},
		{"nothing else of the row", with(orders, row{null, text("x"), {Kind: 9}}), []api.Violation{{Kind: api.BadArity, Table: orders}}},
		{"the other rows still", with(orders, row{num(1), null, null, null}, row{num(1)}, row{null, text("x"), null, null}),
			[]api.Violation{{Kind: api.BadArity, Table: orders, Row: 1}, {Kind: api.BadNull, Table: orders, Row: 2}, {Kind: api.BadType, Table: orders, Row: 2, Index: 1}}},
	})
}

// unfit lists values that no column may have.
func unfit() []api.Value {
	return []api.Value{
		{Kind: 4}, {Kind: -1}, {Kind: 40}, {Kind: api.Null, Num: 1}, {Kind: api.Null, Text: "x"},
		num(api.MaxInt + 1), num(-api.MaxInt - 1), {Kind: api.Int, Text: "x"},
		truth(2), truth(-1), {Kind: api.Bool, Text: "x"},
		text(strings.Repeat("x", api.MaxText+1)), text("it's"), text("\x1f"), text("\x7f"), text("\u00e4"), {Kind: api.Text, Num: 1},
	}
}

func TestTypes(t *testing.T) {
	for c, col := range shop().Tables[orders].Columns {
		place := func(v api.Value) row {
			r := slices.Clone(goods().Tables[orders][0])
			r[c] = v
			return r
		}
		bad := unfit()
		for _, v := range []api.Value{num(1), truth(1), text("red")} {
			if v.Kind != col.Type {
				bad = append(bad, v)
			}
		}
		for _, v := range bad {
			want := []api.Violation{{Kind: api.BadType, Table: orders, Index: c, Row: 1}}
			checkAll(t, []expectation{{col.Name, with(orders, row{num(7), null, null, null}, place(v)), want}})
		}
	}
	checkAll(t, []expectation{
		{"several", with(orders, row{num(1), truth(1), null, num(1)}, row{text(""), null, null, null}),
			[]api.Violation{{Kind: api.BadType, Table: orders, Index: 1}, {Kind: api.BadType, Table: orders, Index: 3}, {Kind: api.BadType, Table: orders, Row: 1}}},
	})
}

func TestNulls(t *testing.T) {
	checkAll(t, []expectation{
		{"key of one column", with(orders, row{null, null, null, truth(1)}), []api.Violation{{Kind: api.BadNull, Table: orders}}},
		{"key of two columns", with(items, append(goods().Tables[items], row{null, null, null})...),
			[]api.Violation{{Kind: api.BadNull, Table: items, Row: 4}, {Kind: api.BadNull, Table: items, Row: 4, Index: 2}}},
		{"before a wrong type", with(orders, row{null, null, num(1), null}), []api.Violation{{Kind: api.BadNull, Table: orders}, {Kind: api.BadType, Table: orders, Index: 2}}},
	})
	// outside of the keys: a column that is not nullable
	s := api.Schema{Tables: []api.Table{{
		Name:    "t",
		Columns: []api.Column{{Name: "a", Type: api.Int}, {Name: "b", Type: api.Bool}, {Name: "c", Type: api.Bool, Nullable: true}},
		Primary: []int{0},
	}}}
	i := api.Instance{Tables: [][]row{{{num(1), null, null}, {num(2), truth(0), null}, {num(1), null, truth(0)}}}}
	want := []api.Violation{{Kind: api.BadNull, Index: 1}, {Kind: api.BadNull, Index: 1, Row: 2}, {Kind: api.BadPrimary, Row: 2}}
	if got, err := Violations(s, i); err != api.OK || !slices.Equal(got, want) || Valid(s, i) {
		t.Errorf("%v, %d", got, err)
	}
}

func TestPrimaryKeys(t *testing.T) {
	checkAll(t, []expectation{
		{"one column", with(orders, row{num(2), null, null, null}, row{num(3), null, null, null}, row{num(3), null, null, truth(1)}, row{num(2), null, null, null}, row{num(3), null, null, null}),
			[]api.Violation{{Kind: api.BadPrimary, Table: orders, Row: 2, Other: 1}, {Kind: api.BadPrimary, Table: orders, Row: 3}, {Kind: api.BadPrimary, Table: orders, Row: 4, Other: 1}}},
		{"two columns", with(items, append(goods().Tables[items], row{num(2), num(8), text("red")}, row{num(2), null, text("black")})...),
			[]api.Violation{{Kind: api.BadPrimary, Table: items, Row: 4, Other: 3}}},
		{"nulls are the same", with(items, append(goods().Tables[items], row{num(1), null, null}, row{null, null, null}, row{num(1), null, null})...),
			[]api.Violation{{Kind: api.BadNull, Table: items, Row: 4, Index: 2}, {Kind: api.BadNull, Table: items, Row: 5}, {Kind: api.BadNull, Table: items, Row: 5, Index: 2}, {Kind: api.BadNull, Table: items, Row: 6, Index: 2}, {Kind: api.BadPrimary, Table: items, Row: 6, Other: 4}}},
		{"not told apart by other columns", with(colours, row{text("red"), null}, row{text(""), null}, row{text("black"), null}, row{text(""), truth(1)}),
			[]api.Violation{{Kind: api.BadPrimary, Table: colours, Row: 3, Other: 1}}},
	})
}

func TestUniqueKeys(t *testing.T) {
	checkAll(t, []expectation{
		{"both keys", with(orders, row{num(2), num(1), text("red"), truth(1)}, row{num(3), num(1), text("red"), truth(1)}),
			[]api.Violation{{Kind: api.BadUnique, Table: orders, Row: 1}, {Kind: api.BadUnique, Table: orders, Index: 1, Row: 1}}},
		{"the first row", with(orders, row{num(2), num(2), text("red"), truth(1)}, row{num(3), num(1), text("red"), null}, row{num(4), num(1), text("red"), null}, row{num(5), num(1), text("red"), null}),
			[]api.Violation{{Kind: api.BadUnique, Table: orders, Row: 2, Other: 1}, {Kind: api.BadUnique, Table: orders, Row: 3, Other: 1}}},
		{"a null is no value", with(orders, row{num(2), num(1), null, null}, row{num(3), num(1), null, null}, row{num(4), null, text("red"), truth(1)}, row{num(5), null, text("red"), truth(1)}, row{num(6), null, null, null}, row{num(7), null, null, null}), nil},
		{"one column", with(items, append(goods().Tables[items], row{num(3), num(7), text("red")}, row{num(4), null, text("red")})...),
			[]api.Violation{{Kind: api.BadUnique, Table: items, Row: 4, Other: 1}}},
	})
}

func TestForeignKeys(t *testing.T) {
	none := goods()
	none.Tables[items], none.Tables[colours] = nil, nil
	checkAll(t, []expectation{
		{"columns in the key's order", with(orders, row{num(2), num(1), text("black"), null}), []api.Violation{{Kind: api.BadForeign, Table: orders, Index: 1}}},
		{"both keys", with(orders, row{num(4), num(2), text("red"), null}, row{num(2), num(1), text("blue"), null}, row{num(3), num(4), text("red"), null}),
			[]api.Violation{{Kind: api.BadForeign, Table: orders, Row: 1}, {Kind: api.BadForeign, Table: orders, Index: 1, Row: 1}, {Kind: api.BadForeign, Table: orders, Index: 1, Row: 2}}},
		{"a null refers to nothing", with(orders, row{num(2), num(4), null, null}, row{num(3), null, text("red"), null}, row{num(4), null, text("blue"), null}),
			[]api.Violation{{Kind: api.BadForeign, Table: orders, Row: 2}}},
		{"no rows there", none, []api.Violation{
			{Kind: api.BadForeign, Table: orders}, {Kind: api.BadForeign, Table: orders, Row: 1}, {Kind: api.BadForeign, Table: orders, Row: 3},
			{Kind: api.BadForeign, Table: orders, Index: 1}, {Kind: api.BadForeign, Table: orders, Index: 1, Row: 1}}},
		{"a key with a null is not referred to", with(items, row{num(1), null, null}, row{num(1), null, text("red")}, row{null, null, text("")}), []api.Violation{
			{Kind: api.BadForeign, Table: orders, Index: 1, Row: 1}, {Kind: api.BadNull, Table: items, Index: 2}, {Kind: api.BadNull, Table: items, Row: 2}}},
	})
}

func TestChecks(t *testing.T) {
	checkAll(t, []expectation{
		{"false", with(orders, row{num(1), null, null, truth(0)}, row{num(2), num(4), null, truth(0)}, row{num(3), num(5), null, null}),
			[]api.Violation{{Kind: api.BadCheck, Table: orders, Row: 2}, {Kind: api.BadCheck, Table: orders, Index: 1}}},
		{"unknown", with(orders, row{num(1), null, null, null}), nil},
		{"a column itself", with(colours, append(goods().Tables[colours], row{text("white"), truth(0)}, row{text("grey"), null})...),
			[]api.Violation{{Kind: api.BadCheck, Table: colours, Row: 3}}},
		{"a null that should not be", with(orders, row{null, null, null, truth(0)}), []api.Violation{{Kind: api.BadNull, Table: orders}}},
	})
}

// A table that does not fit has no keys and checks, and nobody refers to it; the other foreign key of orders is still looked at.
func TestTablesThatDoNotFit(t *testing.T) {
	for _, c := range []struct {
		bad   row
		wrong api.Violation
	}{
		{row{num(1), null}, api.Violation{Kind: api.BadArity, Table: items, Row: 2}},
		{row{num(1), text("x"), text("blue")}, api.Violation{Kind: api.BadType, Table: items, Row: 2, Index: 1}},
	} {
		i := with(items, row{num(1), null, text("blue")}, row{num(1), null, text("blue")}, c.bad)
		i.Tables[orders] = []row{{num(2), num(9), text("red"), null}, {num(2), num(9), text("green"), null}}
		checkAll(t, []expectation{{"items", i, []api.Violation{
			{Kind: api.BadPrimary, Table: orders, Row: 1}, {Kind: api.BadForeign, Table: orders, Row: 1},
			{Kind: api.BadCheck, Table: orders}, {Kind: api.BadCheck, Table: orders, Row: 1}, c.wrong,
		}}})
	}
	spoilt := goods()
	spoilt.Tables[colours] = []row{{text("white"), truth(0)}, {text("white"), truth(0)}, {truth(1), null}}
	spoilt.Tables[items] = append(spoilt.Tables[items], row{num(1), num(1), text("grey")})
	spoilt.Tables[orders][0][2] = text("grey")
	checkAll(t, []expectation{{"colours", spoilt, []api.Violation{
		{Kind: api.BadType, Table: colours, Row: 2},
		{Kind: api.BadUnique, Table: items, Row: 4, Index: 0, Other: 3},
	}}})
}

func TestOrderOfViolations(t *testing.T) {
	i := api.Instance{Tables: [][]row{
		{{text("white"), truth(0)}, {text("white"), null}, {null, truth(0)}},
		{{num(1), num(5), text("red"), truth(0)}, {num(1), num(5), text("red"), truth(0)}, {null, null, null, null}},
		{{num(2), null, text("white")}, {num(2), num(3), text("white")}, {null, num(3), text("red")}},
	}}
	checkAll(t, []expectation{{"all kinds", i, []api.Violation{
		{Kind: api.BadNull, Table: colours, Row: 2},
		{Kind: api.BadPrimary, Table: colours, Row: 1},
		{Kind: api.BadCheck, Table: colours, Row: 0},
		{Kind: api.BadCheck, Table: colours, Row: 2},
		{Kind: api.BadNull, Table: orders, Row: 2},
		{Kind: api.BadPrimary, Table: orders, Row: 1},
		{Kind: api.BadUnique, Table: orders, Row: 1},
		{Kind: api.BadUnique, Table: orders, Row: 1, Index: 1},
		{Kind: api.BadForeign, Table: orders, Row: 0},
		{Kind: api.BadForeign, Table: orders, Row: 1},
		{Kind: api.BadForeign, Table: orders, Row: 0, Index: 1},
		{Kind: api.BadForeign, Table: orders, Row: 1, Index: 1},
		{Kind: api.BadCheck, Table: orders, Row: 0},
		{Kind: api.BadCheck, Table: orders, Row: 1},
		{Kind: api.BadCheck, Table: orders, Row: 0, Index: 1},
		{Kind: api.BadCheck, Table: orders, Row: 1, Index: 1},
		{Kind: api.BadNull, Table: items, Row: 2},
		{Kind: api.BadPrimary, Table: items, Row: 1},
		{Kind: api.BadUnique, Table: items, Row: 2, Other: 1},
		{Kind: api.BadForeign, Table: items, Row: 2},
	}}})
}

func TestErrors(t *testing.T) {
	lists := func(n int) api.Instance { return api.Instance{Tables: make([][]row, n)} }
	named := func(name string) api.Schema {
		s := shop()
		s.Tables[items].Name = name
		return s
	}
	circle := shop()
	circle.Tables[colours].Foreigns = []api.Foreign{{Columns: []int{0}, Table: "colours"}}
	unkeyed := shop()
	unkeyed.Tables[colours].Primary = nil
	unkeyed.Tables[orders].Checks = []api.Expr{lit(1)}
	untyped := shop()
	untyped.Tables[orders].Checks = []api.Expr{lit(1)}
	unknown := shop()
	unknown.Tables[orders].Checks = []api.Expr{column(4)}
	many := api.Schema{Tables: make([]api.Table, api.MaxTables+1)}
	for name, c := range map[string]struct {
		s    api.Schema
		i    api.Instance
		want api.Errno
	}{
		"too few lists":      {shop(), lists(2), api.ErrArity},
		"too many lists":     {shop(), lists(4), api.ErrArity},
		"no lists":           {shop(), api.Instance{}, api.ErrArity},
		"lists of no tables": {api.Schema{}, lists(1), api.ErrArity},
		"rows in no table":   {api.Schema{}, goods(), api.ErrArity},
		"wrong rows too":     {shop(), api.Instance{Tables: [][]row{{{num(1)}}, {{}}}}, api.ErrArity},
		"no tables":          {api.Schema{}, api.Instance{}, api.OK},
		"a wrong name":       {named("Items"), goods(), api.ErrName},
		"a missing table":    {named("things"), goods(), api.ErrMissing},
		"a name twice":       {named("orders"), goods(), api.ErrDuplicate},
		"a circle":           {circle, goods(), api.ErrCycle},
		"no primary key":     {unkeyed, goods(), api.ErrReference},
		"a check of 1":       {untyped, goods(), api.ErrType},
		"a check of nothing": {unknown, goods(), api.ErrName},
		"too many tables":    {many, lists(api.MaxTables + 1), api.ErrLimit},
		"name before lists":  {named("Items"), lists(2), api.ErrName},
		"circle before rows": {circle, lists(9), api.ErrCycle},
	} {
		got, err := Violations(c.s, c.i)
		if err != c.want || len(got) > 0 {
			t.Errorf("%s: %v, %d", name, got, err)
		}
		if Valid(c.s, c.i) != (c.want == api.OK) {
			t.Errorf("%s: Valid is %v", name, c.want != api.OK)
		}
	}
}

// TestManyRows has more rows than meaning takes, since integrity knows no limit of its own.
func TestManyRows(t *testing.T) {
	const many = 30000
	i := api.Instance{Tables: make([][]row, 3)}
	i.Tables[colours] = []row{{text("red"), null}}
	for n := range int64(many) {
		i.Tables[items] = append(i.Tables[items], row{num(n), num(-n), text("red")})
		i.Tables[orders] = append(i.Tables[orders], row{num(n + 2), num(n % 5), text("red"), null})
	}
	got, err := Violations(shop(), i)
	if err != api.OK || len(got) != many-5 {
		t.Fatalf("%d violations, %d", len(got), err)
	}
	for k, v := range got {
		want := api.Violation{Kind: api.BadUnique, Table: orders, Row: k + 5, Other: k % 5}
		if v != want {
			t.Fatalf("violation %d is %v", k, v)
		}
	}
}
