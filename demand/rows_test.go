package demand

import (
	"math"
	"math/rand/v2"
	"slices"
	"testing"

	"querylab/api"
	"querylab/expression"
	"querylab/integrity"
	"querylab/meaning"
	"querylab/schema"
	"querylab/value"
)

// goods is a valid instance of the shop.
func goods() api.Instance {
	return api.Instance{Tables: [][]row{
		{
			{num(7), num(1), yes, num(10), num(2), text("x")},
			{null, num(2), null, num(11), num(2), text("y")},
			{num(4), num(3), no, num(12), num(1), text("x")},
		},
		{{num(30), num(1), num(6), yes}, {null, num(2), num(5), no}, {num(18), num(3), num(7), yes}},
		{{num(1), text("Ulm"), num(5), yes}, {num(1), null, num(6), no}, {num(2), text("Bonn"), num(7), yes}},
		{{num(2), text("b")}, {num(1), text("a")}},
	}}
}

// demands hold on goods.
func demands() []api.Demand {
	big := op(api.OpGt, col(0), lit(5))
	return []api.Demand{
		{View: view("orders", nil), Rows: 3},
		{View: view("countries", nil), Rows: 2},
		{View: view("orders", nil, big), Rows: 1},
		{View: view("orders", nil, op(api.OpNot, big)), Rows: 1},
		{View: view("orders", nil, op(api.OpIsNull, col(0))), Rows: 1},
		{View: view("orders", nil, col(2)), Rows: 1},
		{View: view("orders", []int{0}), Rows: 3},
		{View: view("orders", []int{0}, op(api.OpIsNull, col(6))), Rows: 2},
		{View: view("orders", []int{1}, op(api.OpIsNull, col(6))), Rows: 1},
		{View: view("orders", []int{0, 0}, op(api.OpEq, col(11), str("Ulm"))), Rows: 2},
		{View: view("orders", []int{1, 0}, op(api.OpEq, col(11), str("Bonn"))), Rows: 1},
		{View: view("orders", []int{1, 0, 0}, op(api.OpEq, col(15), str("b"))), Rows: 1},
		{View: view("customers", []int{0, 0}, op(api.OpAnd, col(7), op(api.OpEq, col(9), str("a")))), Rows: 1},
		{View: view("orders", nil, op(api.OpAnd, big, op(api.OpNot, big))), Rows: 0},
	}
}

func TestCount(t *testing.T) {
	for k, d := range demands() {
		if n, err := Count(shop(), goods(), d.View); n != d.Rows || err != api.OK {
			t.Errorf("%d: %d, %d, and not %d", k, n, err, d.Rows)
		}
	}
	for _, c := range conditions() {
		if n, err := Count(shop(), api.Instance{}, view("orders", nil, c.e)); err != c.err || n != 0 {
			t.Errorf("%s: %d, %d", expression.Text(c.e), n, err)
		}
	}
	few, many, empty := goods(), goods(), api.Instance{Tables: make([][]row, 4)}
	few.Tables, many.Tables = few.Tables[:3], append(many.Tables, nil)
	for _, i := range []api.Instance{few, many, {}} {
		for _, v := range chains() {
			if n, err := Count(shop(), i, v); err != api.ErrArity || n != 0 {
				t.Errorf("%v, %d tables: %d, %d", v, len(i.Tables), n, err)
			}
		}
	}
	if n, err := Count(shop(), empty, view("orders", []int{0})); err != api.OK || n != 0 {
		t.Error(n, err)
	}
}

func TestHolds(t *testing.T) {
	l := demands()
	if !Holds(shop(), goods(), l) || !Holds(shop(), goods(), nil) || !Holds(circle(), api.Instance{}, nil) {
		t.Error("demands that hold do not")
	}
	for k := range l {
		for _, by := range []int{1, -1, math.MaxInt32} {
			wrong := demands()
			wrong[k].Rows += by
			if Holds(shop(), goods(), wrong) {
				t.Errorf("%d holds with %d", k, wrong[k].Rows)
			}
		}
	}
	// there are no rows of what has an error
	for _, v := range []api.View{view("none", nil), view("orders", []int{5}), view("orders", nil, lit(1))} {
		if Holds(shop(), goods(), append(demands(), api.Demand{View: v})) {
			t.Errorf("%v holds", v)
		}
	}
	if Holds(shop(), api.Instance{}, []api.Demand{{View: view("orders", nil)}}) {
		t.Error("a demand holds on nothing")
	}
	long := slices.Repeat(demands(), 3)
	if !Holds(shop(), goods(), long) {
		t.Error("more demands than a text may have do not hold")
	}
}

func TestRow(t *testing.T) {
	i := goods()
	for _, c := range []struct {
		v    api.View
		n    int
		want row
	}{
		{view("orders", nil), 0, i.Tables[orders][0]},
		{view("orders", nil, lit(1), lit(2)), 2, i.Tables[orders][2]},
		{view("orders", nil, op(api.OpIsNull, col(0))), 2, i.Tables[orders][2]},
		{view("orders", []int{0}), 0, slices.Concat(i.Tables[orders][0], i.Tables[customers][1])},
		{view("orders", []int{1}), 0, slices.Concat(i.Tables[orders][0], i.Tables[customers][0])},
		{view("orders", []int{1, 0, 0}), 2, slices.Concat(i.Tables[orders][2], i.Tables[customers][2], i.Tables[cities][2], i.Tables[countries][0])},
		{view("cities", []int{0}), 1, slices.Concat(i.Tables[cities][1], i.Tables[countries][1])},
		{view("orders", nil), 3, nil},
		{view("orders", nil), -1, nil},
		{view("orders", []int{0}), math.MaxInt, nil},
		{view("orders", []int{0}), math.MinInt, nil},
		{view("none", nil), 0, nil},
		{view("orders", []int{2}), 0, nil},
		{view("orders", []int{0, -1}), 0, nil},
	} {
		checkRow(t, shop(), i, c.v, c.n, c.want)
	}
	i.Tables = append(i.Tables, nil)
	checkRow(t, shop(), i, view("orders", nil), 1, i.Tables[orders][1])
	i.Tables = i.Tables[:3]
	checkRow(t, shop(), i, view("orders", nil), 1, nil)
	checkRow(t, shop(), api.Instance{}, view("orders", nil), 0, nil)
	checkRow(t, circle(), api.Instance{Tables: [][]row{{{num(1), num(1)}}, {{yes}}, {{num(1)}}, nil}}, view("b", nil), 0, nil)
}

func checkRow(t *testing.T, s api.Schema, i api.Instance, v api.View, n int, want row) {
	t.Helper()
	if got, ok := Row(s, i, v, n); !slices.Equal(got, want) || ok != (want != nil) {
		t.Errorf("%v, %d: %v, %v, and not %v", v, n, got, ok, want)
	}
}

// TestRowsOfWrongInstances has rows that no valid instance has.
func TestRowsOfWrongInstances(t *testing.T) {
	chain := view("orders", []int{0, 0})
	whole := slices.Concat(goods().Tables[orders][0], goods().Tables[customers][1], goods().Tables[cities][0])
	with := func(at int, v api.Value) row {
		r := slices.Clone(whole)
		r[at] = v
		return r
	}
	before := func(l []row, r row) []row { return append([]row{r}, l...) }
	for _, c := range []struct {
		name   string
		change func(i *api.Instance)
		n      int
		want   row
	}{
		{"nothing", func(i *api.Instance) {}, 0, whole},
		{"no row", func(i *api.Instance) { i.Tables[customers] = i.Tables[customers][:1] }, 0, nil},
		{"no rows", func(i *api.Instance) { i.Tables[cities] = nil }, 0, nil},
		{"null", func(i *api.Instance) { i.Tables[orders][0][4] = null }, 0, nil},
		{"null and null", func(i *api.Instance) { i.Tables[orders][0][4], i.Tables[customers][1][1] = null, null }, 0, nil},
		{"other null", func(i *api.Instance) {
			i.Tables[orders][0][4], i.Tables[customers][1][1] = api.Value{Num: 2}, api.Value{Num: 2}
		}, 0, nil},
		{"truth", func(i *api.Instance) { i.Tables[orders][0][4] = api.Value{Kind: api.Bool, Num: 2} }, 0, nil},
		{"truths", func(i *api.Instance) { i.Tables[orders][0][4], i.Tables[customers][1][1] = yes, yes }, 0, func() row {
			r := with(4, yes)
			r[7] = yes
			return r
		}()},
		{"first of two", func(i *api.Instance) {
			i.Tables[customers] = append(i.Tables[customers], row{num(99), num(2), num(5), yes})
		}, 0, whole},
		{"second of two", func(i *api.Instance) {
			i.Tables[customers] = before(i.Tables[customers], row{num(99), num(2), num(5), no})
		}, 0, with(6, num(99))},
		{"too short", func(i *api.Instance) { i.Tables[orders][0] = i.Tables[orders][0][:5] }, 0, nil},
		{"no values", func(i *api.Instance) { i.Tables[orders][0] = nil }, 0, nil},
		{"too short, referenced", func(i *api.Instance) { i.Tables[customers][1] = i.Tables[customers][1][:3] }, 0, nil},
		{"too short, last", func(i *api.Instance) { i.Tables[cities][0] = i.Tables[cities][0][:3] }, 0, nil},
		{"too short, before another one", func(i *api.Instance) {
			i.Tables[customers] = before(i.Tables[customers], row{num(99), num(2)})
		}, 0, nil},
		{"too short for a key", func(i *api.Instance) {
			i.Tables[customers] = before(before(i.Tables[customers], row{num(2)}), nil)
		}, 0, whole},
		{"too long", func(i *api.Instance) {
			i.Tables[orders][0] = append(i.Tables[orders][0], num(1))
			i.Tables[customers][1] = append(i.Tables[customers][1], num(2), num(3))
			i.Tables[cities][0] = append(i.Tables[cities][0], null)
		}, 0, whole},
		{"wrong types", func(i *api.Instance) { i.Tables[customers][1][0] = api.Value{Kind: 9, Text: "'"} }, 0, with(6, api.Value{Kind: 9, Text: "'"})},
	} {
		i := goods()
		c.change(&i)
		t.Log(c.name)
		checkRow(t, shop(), i, chain, c.n, c.want)
		count := 0
		for n := range i.Tables[orders] {
			if _, ok := Row(shop(), i, chain, n); ok {
				count++
			}
		}
		if got, err := Count(shop(), i, chain); got != count || err != api.OK {
			t.Errorf("%s: %d, %d, and not %d", c.name, got, err, count)
		}
	}
}

// wantedRows returns the row of the chain that begins with each row of T0, or nil, as the chapter says it.
func wantedRows(s api.Schema, i api.Instance, v api.View) []row {
	chain, _ := Tables(s, v)
	var all []row
	for _, r := range i.Tables[chain[0]] {
		whole := slices.Clone(r)
		for k, foreign := range v.Path {
			key := r[s.Tables[chain[k]].Foreigns[foreign].Columns[0]]
			primary := s.Tables[chain[k+1]].Primary[0]
			found := slices.IndexFunc(i.Tables[chain[k+1]], func(r row) bool { return value.Truth(value.Equal(r[primary], key)) == 1 })
			if found < 0 {
				whole = nil
				break
			}
			r = i.Tables[chain[k+1]][found]
			whole = append(whole, r...)
		}
		all = append(all, whole)
	}
	return all
}

// stock makes a random instance whose rows have as many values as their tables have columns; its keys are small and may be missing, null or the same.
func stock(r *rand.Rand, s api.Schema, valid bool) api.Instance {
	i := api.Instance{Tables: make([][]row, len(s.Tables))}
	order, _ := schema.Order(s)
	for _, k := range order {
		for n := range 1 + r.IntN(8) {
			var l row
			for _, c := range s.Tables[k].Columns {
				l = append(l, someValue(r, c))
			}
			for f, key := range s.Tables[k].Foreigns {
				target, _ := schema.Target(s, k, f)
				l[key.Columns[0]] = num(int64(r.IntN(len(i.Tables[target]))))
			}
			l[s.Tables[k].Primary[0]] = num(int64(n))
			if !valid && r.IntN(4) == 0 {
				l[r.IntN(len(l))] = null
			}
			if !valid && r.IntN(4) == 0 {
				l[s.Tables[k].Primary[0]] = num(int64(r.IntN(8)))
			}
			i.Tables[k] = append(i.Tables[k], l)
		}
	}
	return i
}

func someValue(r *rand.Rand, c api.Column) api.Value {
	if c.Nullable && r.IntN(3) == 0 {
		return null
	}
	switch c.Type {
	case api.Int:
		return num(int64(r.IntN(6)))
	case api.Bool:
		return value.Bool(r.IntN(2))
	}
	return text(string(rune('a' + r.IntN(3))))
}

// joinedQuery returns a query whose rows are those of a view.
func joinedQuery(s api.Schema, v api.View) api.Query {
	chain, _ := Tables(s, v)
	q := api.Query{Op: api.QScan, Table: v.Table}
	first, width := 0, len(s.Tables[chain[0]].Columns)
	for k, foreign := range v.Path {
		next := s.Tables[chain[k+1]]
		on := op(api.OpEq, col(first+s.Tables[chain[k]].Foreigns[foreign].Columns[0]), col(width+next.Primary[0]))
		q = api.Query{Op: api.QJoin, Kind: api.JoinInner, Cond: on, Kids: []api.Query{q, {Op: api.QScan, Table: next.Name}}}
		first, width = width, width+len(next.Columns)
	}
	for _, cond := range v.Cond {
		q = api.Query{Op: api.QSelect, Cond: cond, Kids: []api.Query{q}}
	}
	return q
}

func TestRowsOfRandomInstances(t *testing.T) {
	r := rand.New(rand.NewPCG(4, 14))
	some, none := 0, 0
	for k := range 3000 {
		v := chains()[k%6]
		chain, _ := Tables(shop(), v)
		v.Cond = []api.Expr{predicate(r, suiting(shop(), chain, num(1), num(3), yes, text("a"), text("b")), 3)}
		valid := r.IntN(2) == 0
		i := stock(r, shop(), valid)
		want := 0
		for n, whole := range wantedRows(shop(), i, v) {
			checkRow(t, shop(), i, v, n, whole)
			if whole == nil {
				none++
			} else if value.Truth(expression.Eval(v.Cond[0], whole)) == 1 {
				want++
				some++
			}
		}
		if got, err := Count(shop(), i, v); got != want || err != api.OK {
			t.Fatalf("%s: %d, %d, and not %d", expression.Text(v.Cond[0]), got, err, want)
		}
		if !Holds(shop(), i, []api.Demand{{View: v, Rows: want}}) || Holds(shop(), i, []api.Demand{{View: v, Rows: want}, {View: v, Rows: want + 1}}) {
			t.Fatalf("%s does not hold", expression.Text(v.Cond[0]))
		}
		if !valid {
			continue
		}
		if !integrity.Valid(shop(), i) {
			t.Fatalf("%v is not valid", i)
		}
		if l, err := meaning.Eval(shop(), i, joinedQuery(shop(), v)); err != api.OK || len(l) != want {
			t.Fatalf("%s: the query has %d rows (%d), and not %d", expression.Text(v.Cond[0]), len(l), err, want)
		}
	}
	if some < 1000 || none < 1000 {
		t.Errorf("%d, %d", some, none)
	}
}

// TestManyRows has so many rows that no table may be gone through for each row of another one.
func TestManyRows(t *testing.T) {
	s := full()
	i := api.Instance{Tables: make([][]row, len(s.Tables))}
	for k := range s.Tables[:2] {
		for n := range int64(200000) {
			i.Tables[k] = append(i.Tables[k], row{num(n), num(n), num(199999 - n)}[:2+k])
		}
	}
	if n, err := Count(s, i, view("b", []int{0}, op(api.OpLt, col(4), lit(50000)))); n != 50000 || err != api.OK {
		t.Error(n, err)
	}
}
