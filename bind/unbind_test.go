package bind

import (
	"math/rand/v2"
	"reflect"
	"slices"
	"testing"

	"querylab/algebra"
	"querylab/api"
	"querylab/sql"
)

func scan(table string) api.Query { return api.Query{Op: api.QScan, Table: table} }
func where(cond api.Expr, q api.Query) api.Query {
	return api.Query{Op: api.QSelect, Cond: cond, Kids: []api.Query{q}}
}
func project(q api.Query, exprs ...api.Expr) api.Query {
	return api.Query{Op: api.QProject, Exprs: exprs, Kids: []api.Query{q}}
}
func distinct(q api.Query) api.Query { return api.Query{Op: api.QDistinct, Kids: []api.Query{q}} }
func join(kind int, cond api.Expr, a, b api.Query) api.Query {
	return api.Query{Op: api.QJoin, Kind: kind, Cond: cond, Kids: []api.Query{a, b}}
}
func set(op int, all bool, a, b api.Query) api.Query {
	return api.Query{Op: op, All: all, Kids: []api.Query{a, b}}
}
func groupBy(q api.Query, aggs []api.Agg, keys ...api.Expr) api.Query {
	return api.Query{Op: api.QGroup, Exprs: keys, Aggs: aggs, Kids: []api.Query{q}}
}
func col(n int) api.Expr                  { return api.Expr{Op: api.OpColumn, Column: n} }
func num(n int64) api.Expr                { return api.Expr{Op: api.OpInt, Num: n} }
func truth(n int64) api.Expr              { return api.Expr{Op: api.OpBool, Num: n} }
func op(o int, kids ...api.Expr) api.Expr { return api.Expr{Op: o, Kids: kids} }
func agg(fun int, arg ...api.Expr) api.Agg {
	if len(arg) == 0 {
		return api.Agg{Fun: fun}
	}
	return api.Agg{Fun: fun, Arg: arg[0]}
}

// checkUnbound compares the results of a query and of its statement, and returns the error of Bind for the statement.
func checkUnbound(t *testing.T, m maker, q api.Query, instances int) api.Errno {
	t.Helper()
	before := algebra.Text(q)
	types, err := algebra.Type(m.schema, q)
	if err != api.OK {
		t.Fatalf("%s: %d", before, err)
	}
	x, err := Unbind(m.schema, q)
	if err != api.OK || algebra.Text(q) != before {
		t.Fatalf("%s: %d", before, err)
	}
	again, names, err := Bind(m.schema, x)
	if err == api.ErrLimit || err == api.ErrDepth || err == api.ErrInvalid && !sql.Valid(x) {
		return err
	}
	if got, wrong := algebra.Type(m.schema, again); err != api.OK || wrong != api.OK || !slices.Equal(got, types) || len(names) != len(types) {
		t.Fatalf("%s: %d: %s", before, err, algebra.Text(again))
	}
	for range instances {
		i := m.instance()
		if a, b := evaluate(m.schema, i, q), evaluate(m.schema, i, again); !reflect.DeepEqual(a, b) {
			t.Fatalf("%s has %v, but %s has %v over %v", before, a, sql.Text(x), b, i)
		}
	}
	return api.OK
}

func TestUnbindOfRandomQueries(t *testing.T) {
	m := maker{rand.New(rand.NewPCG(6, 3)), testSchema(t)}
	errors := map[api.Errno]int{}
	for range 20000 {
		q, _ := m.query(1 + m.IntN(6))
		if _, err := algebra.Type(m.schema, q); err == api.OK {
			errors[checkUnbound(t, m, q, 4)]++
		}
	}
	if errors[api.OK] < 19000 {
		t.Error(errors)
	}
}

func TestUnbindOfEachForm(t *testing.T) {
	m := maker{rand.New(rand.NewPCG(2, 8)), testSchema(t)}
	rows, sum, least := []api.Agg{agg(api.AggRows)}, agg(api.AggSum, col(0)), agg(api.AggMin, col(1))
	for _, table := range []string{"t", "u", "q0"} {
		s := scan(table)
		is := op(api.OpEq, col(0), num(1))
		for _, q := range []api.Query{
			s, where(is, s), where(truth(0), s), distinct(s), distinct(distinct(s)), project(s, col(1), col(0), col(1)), project(project(s, col(0), op(api.OpNeg, col(0))), col(1), col(0), num(-1)), where(is, project(s, col(0))), project(where(is, distinct(s)), col(0)),
			where(is, where(op(api.OpIsNull, col(1)), where(op(api.OpGt, col(0), num(-1)), s))),
			// One row, or none, whatever the table has.
			groupBy(s, rows), project(groupBy(s, rows), num(1)), project(where(truth(1), groupBy(s, rows)), num(1)), project(where(truth(0), groupBy(s, rows)), num(1)), where(truth(0), groupBy(s, rows)), project(where(op(api.OpGt, col(0), num(1)), groupBy(s, rows)), num(1)), distinct(project(groupBy(s, rows), num(1))), project(where(truth(0), groupBy(s, rows)), col(0)), groupBy(groupBy(s, rows), rows), project(groupBy(where(is, s), rows), truth(1), num(2)),
			// Keys that are constants, twice there, or parts of one another.
			groupBy(s, nil, col(0)), groupBy(s, nil, num(5)), project(groupBy(s, nil, num(5)), num(6)), groupBy(s, rows, num(5), truth(1), api.Expr{Op: api.OpNull, Type: api.Text}), groupBy(s, rows, col(0), col(0), op(api.OpAdd, col(0), num(1))), project(groupBy(s, rows, col(0), op(api.OpAdd, col(0), num(1))), op(api.OpAdd, col(0), num(1)), op(api.OpAdd, col(1), num(1)), op(api.OpAdd, op(api.OpAdd, col(0), num(1)), num(1)), num(1), col(2)),
			project(groupBy(s, rows, num(1), col(0)), op(api.OpAdd, col(1), num(1)), num(1), op(api.OpAdd, col(0), col(1))),
			where(op(api.OpGt, col(2), num(1)), groupBy(s, []api.Agg{sum, agg(api.AggRows), sum, least}, col(0))), where(is, where(op(api.OpGt, col(1), num(0)), groupBy(where(is, where(op(api.OpIsNull, col(1)), s)), rows, col(0)))),
			groupBy(s, []api.Agg{agg(api.AggCount, col(1)), agg(api.AggDistinct, col(1)), sum, least, agg(api.AggMax, col(1)), agg(api.AggRows), agg(api.AggCount, num(1))}),
			project(groupBy(s, []api.Agg{sum, least}, col(1)), col(2)), groupBy(groupBy(s, []api.Agg{sum}, col(1)), []api.Agg{agg(api.AggSum, col(1))}, col(0)),
		} {
			if err := checkUnbound(t, m, q, 40); err != api.OK {
				t.Errorf("%s: %d", algebra.Text(q), err)
			}
		}
	}
}

func TestUnbindOfJoins(t *testing.T) {
	m := maker{rand.New(rand.NewPCG(7, 7)), testSchema(t)}
	tt, u, q0 := scan("t"), scan("u"), scan("q0")
	eq := func(a, b int) api.Expr { return op(api.OpEq, col(a), col(b)) }
	for kind := api.JoinInner; kind <= api.JoinAnti; kind++ {
		width := 4
		if kind >= api.JoinSemi {
			width = 2
		}
		self := join(kind, eq(0, 2), tt, tt)
		for _, q := range []api.Query{
			join(kind, eq(0, 2), tt, u), join(kind, truth(1), tt, u), join(kind, truth(0), q0, u), self, distinct(self), where(op(api.OpIsNull, col(1)), self), groupBy(self, []api.Agg{agg(api.AggRows), agg(api.AggCount, col(width-1))}, col(1)),
			join(kind, eq(0, width), self, tt), join(api.JoinInner, eq(0, width+1), self, u), join(api.JoinInner, eq(0, width), self, self), join(kind, eq(0, 2), tt, self), join(kind, eq(width-2, width), join(api.JoinSemi, eq(0, width), self, q0), q0), join(kind, eq(0, 2), join(api.JoinAnti, eq(0, 2), tt, scan("q0")), join(api.JoinLeft, eq(0, 2), tt, tt)),
			// Names that are made up meet the table q0 and its column c0.
			join(kind, eq(0, 2), project(tt, num(1), col(0)), q0), join(kind, eq(0, 3), q0, project(tt, num(1), col(0))), join(kind, eq(0, 1), project(q0, op(api.OpAdd, col(0), num(1))), project(q0, col(0), col(1))), join(kind, eq(0, 3), where(eq(0, 0), q0), q0), join(kind, eq(0, 3), q0, where(eq(0, 0), q0)), join(kind, eq(0, 3), join(api.JoinSemi, eq(0, 3), q0, q0), q0),
			project(join(kind, eq(0, 3), distinct(q0), distinct(project(q0, col(0), col(0), col(1)))), col(1), col(1), num(0)),
			join(kind, eq(0, 1), set(api.QUnion, true, project(tt, col(0)), project(u, col(0))), set(api.QExcept, false, project(u, col(1)), project(tt, col(0)))),
		} {
			if err := checkUnbound(t, m, q, 40); err != api.OK {
				t.Errorf("%s: %d", algebra.Text(q), err)
			}
		}
	}
}

func TestUnbindOfSets(t *testing.T) {
	m := maker{rand.New(rand.NewPCG(9, 1)), testSchema(t)}
	a, b, c := project(scan("t"), col(0)), project(scan("u"), col(1)), groupBy(scan("q0"), []api.Agg{agg(api.AggRows)})
	for first := api.QUnion; first <= api.QIntersect; first++ {
		for second := api.QUnion; second <= api.QIntersect; second++ {
			for n := range 4 {
				left, right := set(first, n&1 > 0, set(second, n&2 > 0, a, b), c), set(first, n&1 > 0, a, set(second, n&2 > 0, b, c))
				for _, q := range []api.Query{left, right, distinct(left), where(op(api.OpEq, col(0), num(1)), right), project(left, col(0), col(0)), groupBy(right, []api.Agg{agg(api.AggSum, col(0))}), set(second, true, left, right)} {
					if err := checkUnbound(t, m, q, 20); err != api.OK {
						t.Errorf("%s: %d", algebra.Text(q), err)
					}
				}
			}
		}
	}
}

// TestUnbindOfBoundStatements has no more than promised, but shows that what a select can say becomes a select.
func TestUnbindOfBoundStatements(t *testing.T) {
	s := testSchema(t)
	for _, text := range []string{
		"select a, b from t", "select a from t where a < 5", "select distinct b from t", "select a + 1 as c0, b || 'x' as c1 from t", "select t.a, u.a as c0, c from t inner join u on t.a = u.a", "select count(*) as c0 from t", "select b, count(*) as c0 from t where a > 0 group by b having sum(a) > 1",
		"select a from t semi join u on t.a = u.a anti join u as q0 on t.a = k", "select t.a, q0.a as c0 from t inner join t as q0 on t.a = q0.a left join u on c",
		"select a from t union all select k from u except select a from q0", "select a from (select a from t union select k from u) as q0 where a > 1", "select k from (select distinct k, c from u) as q0 right join t on k = a", "select (a + 1) * 2 as c0, a + 1 as c1 from t group by a + 1",
	} {
		q, err := Query(s, text)
		if err != api.OK {
			t.Fatal(text, err)
		}
		x, err := Unbind(s, q)
		if again, _, wrong := Bind(s, x); err != api.OK || wrong != api.OK || !algebra.Same(q, again) || sql.Text(x) != sql.Text(statement(t, text)) {
			t.Errorf("%s: %s, %d, %d", text, sql.Text(x), err, wrong)
		}
	}
}

func TestUnbindOfDeepQueries(t *testing.T) {
	m := maker{rand.New(rand.NewPCG(4, 4)), testSchema(t)}
	positive := op(api.OpGt, col(0), num(-1))
	selects, distincts, joins := scan("t"), scan("t"), scan("t")
	for n := range api.MaxDepth - 2 {
		selects = where(op(api.OpGt, col(0), num(int64(-n))), selects)
		distincts = distinct(distincts)
		joins = join(api.JoinSemi, positive, joins, scan("u"))
	}
	for _, q := range []api.Query{selects, where(positive, selects), distincts, distinct(distincts), joins, distinct(selects), join(api.JoinInner, positive, scan("u"), where(positive, selects.Kids[0]))} {
		if err := checkUnbound(t, m, q, 10); err != api.OK {
			t.Errorf("%s: %d", algebra.Text(q), err)
		}
	}
	if err := checkUnbound(t, m, distinct(joins), 0); err != api.ErrDepth {
		t.Error(err)
	}
	deep := col(0)
	for range api.MaxDepth - 2 {
		deep = op(api.OpNeg, deep)
	}
	if err := checkUnbound(t, m, project(scan("t"), deep), 10); err != api.OK {
		t.Error(err)
	}
	if err := checkUnbound(t, m, project(scan("t"), op(api.OpNeg, deep)), 0); err != api.ErrInvalid {
		t.Error(err)
	}
}

func TestUnbindErrors(t *testing.T) {
	s, wrong := testSchema(t), api.Schema{Tables: []api.Table{{Name: "t"}}}
	table := api.Query{Op: api.QValues, Types: []int{api.Int}, Rows: [][]api.Value{{{Kind: api.Int, Num: 1}}}}
	one := project(scan("t"), col(0))
	for _, c := range []struct {
		q    api.Query
		want api.Errno
	}{
		{table, api.ErrFragment}, {api.Query{Op: api.QValues, Types: []int{api.Int}}, api.ErrFragment}, {distinct(table), api.ErrFragment}, {set(api.QUnion, true, table, one), api.ErrFragment}, {set(api.QUnion, true, one, table), api.ErrFragment}, {join(api.JoinInner, truth(1), scan("t"), project(table, num(1))), api.ErrFragment}, {groupBy(where(truth(1), table), nil, col(0)), api.ErrFragment},
		{api.Query{}, api.ErrInvalid}, {scan("none"), api.ErrMissing}, {scan(""), api.ErrMissing}, {project(scan("t")), api.ErrArity}, {where(col(0), scan("t")), api.ErrType}, {where(col(2), scan("t")), api.ErrName}, {distinct(api.Query{Op: 11}), api.ErrInvalid}, {api.Query{Op: api.QDistinct}, api.ErrArity}, {join(7, truth(1), one, one), api.ErrInvalid}, {groupBy(one, nil), api.ErrArity},
		{project(table, col(1)), api.ErrName}, {set(api.QUnion, false, table, scan("none")), api.ErrMissing}, {set(api.QUnion, false, table, scan("t")), api.ErrType}, {api.Query{Op: api.QValues}, api.ErrType}, {where(op(api.OpIn, slices.Repeat([]api.Expr{num(1)}, 200)...), scan("none")), api.ErrLimit},
	} {
		if x, err := Unbind(s, c.q); err != c.want || !sql.Same(x, api.Statement{}) {
			t.Errorf("%s: %d, not %d", algebra.Text(c.q), err, c.want)
		}
		if x, err := Unbind(wrong, c.q); err != api.ErrInvalid || !sql.Same(x, api.Statement{}) {
			t.Errorf("%s over a schema that is not valid: %d", algebra.Text(c.q), err)
		}
	}
	if _, err := Unbind(wrong, scan("t")); err != api.ErrInvalid {
		t.Error(err)
	}
}

func TestUnbindLeavesNothingShared(t *testing.T) {
	m := maker{rand.New(rand.NewPCG(5, 5)), testSchema(t)}
	for range 2000 {
		q, _ := m.query(1 + m.IntN(5))
		x, err := Unbind(m.schema, q)
		if err != api.OK || !sql.Valid(x) {
			continue
		}
		text, s := sql.Text(x), testSchema(t)
		again, _ := Unbind(s, q)
		scratch(reflect.ValueOf(&q).Elem())
		scratch(reflect.ValueOf(&s).Elem())
		if sql.Text(x) != text || sql.Text(again) != text {
			t.Fatal(text)
		}
		alone(t, reflect.ValueOf(again), map[uintptr]bool{})
		if q, _, err := Bind(testSchema(t), x); err == api.OK {
			alone(t, reflect.ValueOf(q), map[uintptr]bool{})
		}
	}
}

// alone looks for slices of one value that share memory.
func alone(t *testing.T, v reflect.Value, seen map[uintptr]bool) {
	t.Helper()
	switch v.Kind() {
	case reflect.Struct:
		for i := range v.NumField() {
			alone(t, v.Field(i), seen)
		}
	case reflect.Slice:
		if v.Len() > 0 && seen[v.Pointer()] {
			t.Fatal("two slices share memory")
		}
		seen[v.Pointer()] = true
		for i := range v.Len() {
			alone(t, v.Index(i), seen)
		}
	}
}
