package algebra

import (
	"reflect"
	"slices"
	"testing"

	"querylab/api"
)

func col(k int) api.Expr                  { return api.Expr{Op: api.OpColumn, Column: k} }
func num(n int64) api.Expr                { return api.Expr{Op: api.OpInt, Num: n} }
func op(o int, kids ...api.Expr) api.Expr { return api.Expr{Op: o, Kids: kids} }
func below(k int, n int64) api.Expr       { return op(api.OpLt, col(k), num(n)) }
func integer(n int64) api.Value           { return api.Value{Kind: api.Int, Num: n} }

func query(o int, kids ...api.Query) api.Query { return api.Query{Op: o, Kids: kids} }
func scan(name string) api.Query               { return api.Query{Op: api.QScan, Table: name} }

func values(types []int, rows ...[]api.Value) api.Query {
	return api.Query{Op: api.QValues, Types: types, Rows: rows}
}

func where(c api.Expr, kid api.Query) api.Query {
	return api.Query{Op: api.QSelect, Cond: c, Kids: []api.Query{kid}}
}

func project(kid api.Query, exprs ...api.Expr) api.Query {
	return api.Query{Op: api.QProject, Exprs: exprs, Kids: []api.Query{kid}}
}

func join(kind int, c api.Expr, kids ...api.Query) api.Query {
	return api.Query{Op: api.QJoin, Kind: kind, Cond: c, Kids: kids}
}

func group(kid api.Query, aggs []api.Agg, exprs ...api.Expr) api.Query {
	return api.Query{Op: api.QGroup, Exprs: exprs, Aggs: aggs, Kids: []api.Query{kid}}
}

// chain returns a query of this depth, which is its size, too.
func chain(depth int) api.Query {
	q := scan("t")
	for range depth - 1 {
		q = query(api.QDistinct, q)
	}
	return q
}

// everything has something in every field.
func everything(o int) api.Query {
	return api.Query{
		Op: o, Table: "t", Kind: api.JoinLeft, All: true, Cond: below(0, 5), Exprs: []api.Expr{col(0), below(1, 2)},
		Aggs:  []api.Agg{{Fun: api.AggSum, Arg: op(api.OpNeg, col(1))}, {Fun: api.AggRows, Arg: num(1)}, {Fun: 9, Arg: col(3)}},
		Types: []int{api.Int, api.Text}, Rows: [][]api.Value{{integer(1), {}}, {}, {integer(2)}}, Kids: []api.Query{scan("u")},
	}
}

func unknownOps() []int { return []int{-1 << 63, -1, 0, api.QGroup + 1, 99, 1<<63 - 1} }

func TestSizeCountsWhatTheOperatorUses(t *testing.T) {
	const itselfKidAndRows = 1 + 1 + 3
	expressions := map[int]int{api.QSelect: 3, api.QJoin: 3, api.QProject: 1 + 3, api.QGroup: 1 + 3 + 2 + 1}
	for _, o := range append(unknownOps(), 1, 2, 3, 4, 5, 6, 7, 8, 9, 10) {
		if got, want := Size(everything(o)), itselfKidAndRows+expressions[o]; got != want {
			t.Errorf("Size of operator %d is %d, not %d", o, got, want)
		}
	}
}

func TestSizeAndDepth(t *testing.T) {
	for _, c := range []struct {
		q           api.Query
		size, depth int
	}{
		{api.Query{}, 1, 1},
		{scan("t"), 1, 1},
		{where(below(0, 5), scan("t")), 5, 2},
		{where(api.Expr{}, scan("t")), 3, 2},
		{query(api.QJoin), 2, 1},
		{project(scan("t")), 2, 2},
		{project(scan("t"), below(0, 5), col(0)), 6, 2},
		{group(scan("t"), []api.Agg{{Fun: api.AggRows}}), 2, 2},
		{group(scan("t"), []api.Agg{{Fun: api.AggCount}, {Fun: api.AggMax, Arg: below(0, 5)}}, col(0)), 7, 2},
		{group(scan("t"), []api.Agg{{}, {Fun: -1, Arg: num(1)}}), 4, 2},
		{values([]int{1, 2, 3}), 1, 1},
		{values([]int{1}, []api.Value{{}, {}}, nil, []api.Value{{}}), 4, 1},
		{join(1, num(1), chain(3), scan("t")), 6, 4},
		{join(1, num(1), scan("t"), chain(3)), 6, 4},
		{query(api.QUnion, chain(2), chain(5), chain(3), chain(1)), 12, 6},
		{query(99, values(nil, []api.Value{{}, {}}), query(-5, scan("t"))), 6, 3},
		{chain(5000), 5000, 5000},
	} {
		if size, depth := Size(c.q), Depth(c.q); size != c.size || depth != c.depth {
			t.Errorf("Size and Depth of %.200s are %d, %d, not %d, %d", Text(c.q), size, depth, c.size, c.depth)
		}
	}
}

func TestTables(t *testing.T) {
	distinct := query(api.QDistinct, scan("d"))
	distinct.Table = "e"
	scanned := scan("k")
	scanned.Kids = []api.Query{scan("c"), scan("")}
	for _, c := range []struct {
		q    api.Query
		want []string
	}{
		{scan("t"), []string{"t"}},
		{values([]int{1}), nil},
		{api.Query{Table: "t"}, nil},
		{distinct, []string{"d"}},
		{scanned, []string{"", "c", "k"}},
		{join(1, num(1), where(num(1), scan("b")), query(api.QUnion, scan("b"), scan("a"))), []string{"a", "b"}},
		{query(99, scan("z"), scan("ab"), scan("b"), scan("B"), scan("a"), scan("ab"), scan("z")), []string{"B", "a", "ab", "b", "z"}},
	} {
		if got := Tables(c.q); !slices.Equal(got, c.want) {
			t.Errorf("Tables of %s is %v", Text(c.q), got)
		}
	}
}

// changes of one field each.
func changes() []func(q *api.Query) {
	return []func(q *api.Query){
		func(q *api.Query) { q.Op++ },
		func(q *api.Query) { q.Table = "T" },
		func(q *api.Query) { q.Kind++ },
		func(q *api.Query) { q.All = !q.All },
		func(q *api.Query) { q.Cond.Num++ },
		func(q *api.Query) { q.Cond.Kids[1].Num++ },
		func(q *api.Query) { q.Exprs[0].Column++ },
		func(q *api.Query) { q.Exprs[1].Kids[1].Text = "a" },
		func(q *api.Query) { q.Exprs = q.Exprs[:1] },
		func(q *api.Query) { q.Exprs = nil },
		func(q *api.Query) { q.Aggs[0].Fun++ },
		func(q *api.Query) { q.Aggs[1].Arg.Num++ },
		func(q *api.Query) { q.Aggs = q.Aggs[:2] },
		func(q *api.Query) { q.Aggs[0], q.Aggs[2] = q.Aggs[2], q.Aggs[0] },
		func(q *api.Query) { q.Types[1]++ },
		func(q *api.Query) { q.Types = q.Types[:1] },
		func(q *api.Query) { q.Rows[2][0].Num++ },
		func(q *api.Query) { q.Rows[0][1].Text = "a" },
		func(q *api.Query) { q.Rows[0][1].Kind++ },
		func(q *api.Query) { q.Rows[0] = q.Rows[0][:1] },
		func(q *api.Query) { q.Rows = q.Rows[:2] },
		func(q *api.Query) { q.Kids[0].Table = "U" },
		func(q *api.Query) { q.Kids = append(q.Kids, scan("u")) },
		func(q *api.Query) { q.Kids = nil },
	}
}

func TestSameComparesAllFields(t *testing.T) {
	for _, o := range append(unknownOps()[1:5], 1, 2, 3, 4, 5, 6, 7, 8, 9, 10) {
		a := everything(o)
		if !Same(a, everything(o)) {
			t.Errorf("operator %d: a query is not the same as itself", o)
		}
		for k, change := range changes() {
			b := everything(o)
			change(&b)
			if Same(a, b) || Same(b, a) || Same(query(9, a), query(9, b)) || Same(query(5, scan("t"), b), query(5, scan("t"), a)) {
				t.Errorf("operator %d, change %d: the queries are the same", o, k)
			}
			if !Same(b, b) {
				t.Errorf("operator %d, change %d: a query is not the same as itself", o, k)
			}
		}
	}
}

func TestSameTakesNilAsEmpty(t *testing.T) {
	a := api.Query{Op: api.QValues, Rows: [][]api.Value{nil}, Aggs: []api.Agg{{Fun: 1}}, Exprs: []api.Expr{num(1)}, Kids: []api.Query{{}}}
	b := api.Query{
		Op: api.QValues, Rows: [][]api.Value{{}}, Aggs: []api.Agg{{Fun: 1, Arg: op(0)}}, Exprs: []api.Expr{num(1)},
		Cond: api.Expr{Kids: []api.Expr{}}, Types: []int{},
		Kids: []api.Query{{Exprs: []api.Expr{}, Aggs: []api.Agg{}, Types: []int{}, Rows: [][]api.Value{}, Kids: []api.Query{}}},
	}
	b.Aggs[0].Arg.Kids = []api.Expr{}
	b.Exprs[0].Kids = []api.Expr{}
	if !Same(a, b) || !Same(b, a) {
		t.Error("nil is not the same as empty")
	}
	b.Rows = [][]api.Value{}
	if Same(a, b) || Same(b, a) {
		t.Error("an empty row is the same as none")
	}
}

func TestTreesLeaveArgumentsAlone(t *testing.T) {
	fresh := func() api.Query { return query(api.QUnion, scan("z"), everything(api.QGroup), scan("a")) }
	q := fresh()
	Size(q)
	Depth(q)
	Text(q)
	Same(q, fresh())
	Tables(q)[0] = "other"
	if !reflect.DeepEqual(q, fresh()) || !slices.Equal(Tables(q), []string{"a", "u", "z"}) {
		t.Errorf("the query was changed: %v", q)
	}
}
