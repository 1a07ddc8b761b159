package region

import (
	"math"
	"slices"
	"strings"
	"testing"

	"querylab/api"
)

type row = []api.Value

var (
	null = api.Value{}
	yes  = api.Value{Kind: api.Bool, Num: 1}
	no   = api.Value{Kind: api.Bool}
)

func num(n int64) api.Value { return api.Value{Kind: api.Int, Num: n} }

func text(s string) api.Value { return api.Value{Kind: api.Text, Text: s} }

func col(k int) api.Expr { return api.Expr{Op: api.OpColumn, Column: k} }

func lit(n int64) api.Expr { return api.Expr{Op: api.OpInt, Num: n} }

func op(o int, kids ...api.Expr) api.Expr { return api.Expr{Op: o, Kids: kids} }

func atom(column, op int, v api.Value) api.Atom {
	return api.Atom{Column: column, Op: op, Value: v}
}

// invalid lists values that are not valid.
func invalid() []api.Value {
	return []api.Value{
		{Kind: 4}, {Kind: -1}, {Kind: 1 << 32}, {Kind: api.Null, Num: 1}, {Kind: api.Null, Text: "x"},
		num(api.MaxInt + 1), num(-api.MaxInt - 1), num(math.MinInt64), {Kind: api.Int, Text: "x"},
		{Kind: api.Bool, Num: 2}, {Kind: api.Bool, Num: -1}, {Kind: api.Bool, Text: "x"},
		text(strings.Repeat("x", api.MaxText+1)), text("it's"), text("\x1f"), {Kind: api.Text, Num: 1},
	}
}

const (
	orders    = 0
	customers = 1
	cities    = 2
)

// shop is plain: its keys are not the first columns, a table has two keys into one table, and each table refers to later ones.
func shop() api.Schema {
	return api.Schema{Tables: []api.Table{
		{
			Name: "orders",
			Columns: []api.Column{
				{Name: "amount", Type: api.Int, Nullable: true}, {Name: "payer", Type: api.Int}, {Name: "paid", Type: api.Bool, Nullable: true},
				{Name: "id", Type: api.Int}, {Name: "buyer", Type: api.Int}, {Name: "note", Type: api.Text},
			},
			Primary:  []int{3},
			Foreigns: []api.Foreign{{Columns: []int{4}, Table: "customers"}, {Columns: []int{1}, Table: "customers"}},
		},
		{
			Name:     "customers",
			Columns:  []api.Column{{Name: "age", Type: api.Int}, {Name: "id", Type: api.Int}, {Name: "city", Type: api.Int}},
			Primary:  []int{1},
			Foreigns: []api.Foreign{{Columns: []int{2}, Table: "cities"}},
		},
		{
			Name:    "cities",
			Columns: []api.Column{{Name: "id", Type: api.Int}, {Name: "name", Type: api.Text, Nullable: true}, {Name: "big", Type: api.Bool}},
			Primary: []int{0},
		},
	}}
}

func TestPlain(t *testing.T) {
	full := api.Schema{}
	for k := range api.MaxTables {
		full.Tables = append(full.Tables, api.Table{Name: string(rune('a' + k)), Columns: []api.Column{{Name: "id", Type: api.Int}}, Primary: []int{0}})
	}
	checked := shop()
	checked.Tables[orders].Checks = []api.Expr{op(api.OpLt, op(api.OpAdd, col(0), lit(1)), op(api.OpLength, col(5))), col(2), {Op: api.OpBool, Num: 1}}
	same := shop()
	same.Tables[cities].Uniques, same.Tables[cities].Foreigns, same.Tables[cities].Checks = [][]int{}, []api.Foreign{}, []api.Expr{}
	for name, s := range map[string]api.Schema{"shop": shop(), "nothing": {}, "full": full, "checked": checked, "empty lists": same} {
		if !Plain(s) {
			t.Errorf("%s is not plain", name)
		}
	}
}

func TestNotPlain(t *testing.T) {
	check := func(table int, e api.Expr) func(s *api.Schema) {
		return func(s *api.Schema) {
			s.Tables[table].Checks = []api.Expr{{Op: api.OpBool, Num: 1}, e}
		}
	}
	for name, change := range map[string]func(s *api.Schema){
		"name twice":               func(s *api.Schema) { s.Tables[cities].Name = "orders" },
		"missing table":            func(s *api.Schema) { s.Tables[cities].Name = "towns" },
		"too many tables":          func(s *api.Schema) { s.Tables = append(s.Tables, make([]api.Table, api.MaxTables)...) },
		"no columns":               func(s *api.Schema) { s.Tables[cities].Columns = nil },
		"circle":                   func(s *api.Schema) { s.Tables[customers].Foreigns[0].Table = "customers" },
		"no primary key":           func(s *api.Schema) { s.Tables[orders].Primary = nil },
		"primary key not there":    func(s *api.Schema) { s.Tables[orders].Primary = []int{6} },
		"primary key of two":       func(s *api.Schema) { s.Tables[orders].Primary = []int{3, 5} },
		"primary key of a text":    func(s *api.Schema) { s.Tables[orders].Primary = []int{5} },
		"primary key nullable":     func(s *api.Schema) { s.Tables[orders].Columns[3].Nullable = true },
		"foreign key nullable":     func(s *api.Schema) { s.Tables[customers].Columns[2].Nullable = true },
		"foreign key of a text":    func(s *api.Schema) { s.Tables[customers].Columns[2].Type = api.Text },
		"foreign key in primary":   func(s *api.Schema) { s.Tables[customers].Foreigns[0].Columns = []int{1} },
		"column in two keys":       func(s *api.Schema) { s.Tables[orders].Foreigns[1].Columns = []int{4} },
		"unique key":               func(s *api.Schema) { s.Tables[cities].Uniques = [][]int{{1}} },
		"unique key of an integer": func(s *api.Schema) { s.Tables[customers].Uniques = [][]int{{0}} },
		"check of a primary key":   check(cities, op(api.OpLt, col(0), lit(5))),
		"check of a foreign key":   check(customers, op(api.OpLt, col(2), lit(5))),
		"check of all columns":     check(orders, op(api.OpOr, op(api.OpIsNull, col(0)), op(api.OpNot, op(api.OpEq, col(0), col(1))))),
		"check of an integer":      check(orders, col(0)),
		"foreign key of two": func(s *api.Schema) {
			s.Tables[cities].Primary, s.Tables[cities].Columns[1] = []int{0, 1}, api.Column{Name: "name", Type: api.Int}
			s.Tables[customers].Foreigns[0].Columns = []int{2, 0}
		},
		"all keys of truths": func(s *api.Schema) {
			s.Tables[cities].Columns[0].Type, s.Tables[customers].Columns[2].Type = api.Bool, api.Bool
		},
	} {
		s := shop()
		change(&s)
		if Plain(s) {
			t.Errorf("%s: plain", name)
		}
	}
}

func TestArgumentsAreLeftAlone(t *testing.T) {
	s := shop()
	// room behind the lists, which an append to them would write to
	s.Tables[orders].Uniques = make([][]int, 1, 2)[:0]
	s.Tables[orders].Primary = []int{3, 77}[:1]
	atoms := []api.Atom{atom(2, api.OpIsNull, null), atom(0, api.OpLt, num(7)), atom(0, api.OpLt, num(5)), atom(0, api.OpLt, num(5)), atom(5, api.OpEq, text("x"))}
	given := slices.Clone(atoms)
	Plain(s)
	Suits(s.Tables[orders], atoms[0])
	Classes(s.Tables[orders].Columns[0], 0, atoms[:4])
	Atoms(s.Tables[orders], op(api.OpAnd, Expr(atoms[1]), Expr(atoms[0])))
	if !slices.Equal(atoms, given) || s.Tables[orders].Uniques[:1][0] != nil || s.Tables[orders].Primary[:2][1] != 77 {
		t.Errorf("changed: %v, %v", atoms, s)
	}
}
