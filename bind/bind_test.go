package bind

import (
	"math"
	"reflect"
	"slices"
	"strings"
	"testing"

	"querylab/algebra"
	"querylab/api"
	"querylab/sql"
)

const testTables = `
table t (a int, b text null, primary (a), check (a > 0 or b is null));
table u (k int, a int, c bool, primary (k), unique (c, a), foreign (a) references t);
table q0 (a int, c0 bool, d text, primary (a));
`

func testSchema(t *testing.T) api.Schema {
	t.Helper()
	s, at, err := Schema(testTables)
	if err != api.OK {
		t.Fatal(at, err)
	}
	return s
}

func statement(t *testing.T, text string) api.Statement {
	t.Helper()
	x, at, err := sql.Parse(text)
	if err != api.OK {
		t.Fatal(text, at, err)
	}
	return x
}

// bound is a text, its query, and the names of its columns, with commas between them.
type bound struct{ text, query, names string }

func checkBound(t *testing.T, l []bound) {
	t.Helper()
	s := testSchema(t)
	for _, c := range l {
		q, names, err := Bind(s, statement(t, c.text))
		if err != api.OK || algebra.Text(q) != c.query || strings.Join(names, ",") != c.names {
			t.Errorf("%s: %s, %q, %d", c.text, algebra.Text(q), names, err)
		}
		if again, err := Query(s, c.text); err != api.OK || !algebra.Same(again, q) {
			t.Errorf("%s: %s, %d", c.text, algebra.Text(again), err)
		}
	}
}

func TestBindSources(t *testing.T) {
	checkBound(t, []bound{
		{"select a from t where a < 5", "project($0, select(lt($0, 5), scan(t)))", "a"},
		{"select * from t", "project($0, $1, scan(t))", "a,b"},
		{"select b, a from t as v", "project($1, $0, scan(t))", "b,a"},
		{"select v.b, a from t as v", "project($1, $0, scan(t))", "b,a"},
		{"select t.b from t", "project($1, scan(t))", "b"},
		{"select u.a from t as u", "project($0, scan(t))", "a"},
		{"select a from (select b as a, a as b from t) as v", "project($0, project($1, $0, scan(t)))", "a"},
		{"select v.y from (select a, a + 1 as y from t) as v", "project($1, project($0, add($0, 1), scan(t)))", "y"},
		{"select * from (select a, a + 1, a, t.b from t) as v", "project($0, $1, $2, $3, project($0, add($0, 1), $0, $1, scan(t)))", "a,,a,b"},
		{"select x from (select a as x from t union select k as y from u) as v", "project($0, union(distinct, project($0, scan(t)), project($0, scan(u))))", "x"},
		{"select x from (select y as x from (select a as y from t) as v) as w", "project($0, project($0, project($0, scan(t))))", "x"},
		{"select t.a from (select a from t) as t join (select k from u) as u on a = k", "project($0, join(inner, eq($0, $1), project($0, scan(t)), project($0, scan(u))))", "a"},
		{"select t.a from (select t.a from t join u on true) as t", "project($0, project($0, join(inner, true, scan(t), scan(u))))", "a"},
	})
}

func TestBindJoins(t *testing.T) {
	kinds := map[string]string{"join": "inner", "inner join": "inner", "left join": "left", "right join": "right", "full join": "full"}
	for word, kind := range kinds {
		checkBound(t, []bound{
			{"select * from t " + word + " u on t.a = u.a", "project($0, $1, $2, $3, $4, join(" + kind + ", eq($0, $3), scan(t), scan(u)))", "a,b,k,a,c"},
			{"select b, c from t " + word + " u on c " + word + " q0 on k = q0.a and c0", "project($1, $4, join(" + kind + ", and(eq($2, $5), $6), join(" + kind + ", $4, scan(t), scan(u)), scan(q0)))", "b,c"},
		})
	}
	checkBound(t, []bound{
		{"select * from t cross join u", "project($0, $1, $2, $3, $4, join(inner, true, scan(t), scan(u)))", "a,b,k,a,c"},
		{"select v.a, t.a, w.a from t cross join t as v cross join (select a from u) as w", "project($2, $0, $4, join(inner, true, join(inner, true, scan(t), scan(t)), project($1, scan(u))))", "a,a,a"},
		// A column is known behind its own join.
		{"select t.a from t join u on k = 1 and t.a = u.a join q0 on q0.a = k", "project($0, join(inner, eq($5, $2), join(inner, and(eq($2, 1), eq($0, $3)), scan(t), scan(u)), scan(q0)))", "a"},
		{"select b from u left join t on k = t.a", "project($4, join(left, eq($0, $3), scan(u), scan(t)))", "b"},
	})
	for word, kind := range map[string]string{"semi join": "semi", "anti join": "anti"} {
		checkBound(t, []bound{
			{"select * from t " + word + " u on t.a = u.a", "project($0, $1, join(" + kind + ", eq($0, $3), scan(t), scan(u)))", "a,b"},
			{"select a, b from t " + word + " u on t.a = u.a where a > 1", "project($0, $1, select(gt($0, 1), join(" + kind + ", eq($0, $3), scan(t), scan(u))))", "a,b"},
			{"select t.a, v.k from t " + word + " u on c join u as v on t.a = k", "project($0, $2, join(inner, eq($0, $2), join(" + kind + ", $4, scan(t), scan(u)), scan(u)))", "a,k"},
			{"select a from t " + word + " u on t.a = k " + word + " q0 on b = d", "project($0, join(" + kind + ", eq($1, $4), join(" + kind + ", eq($0, $2), scan(t), scan(u)), scan(q0)))", "a"},
		})
	}
}

func TestBindTerms(t *testing.T) {
	checkBound(t, []bound{
		{"select 1, -1, 'x', true, false, null int, null bool, null text from t", "project(1, -1, 'x', true, false, null, null, null, scan(t))", ",,,,,,,"},
		{"select case when a in (1, 2) then b || 'x' else coalesce(b, '') end as y from t", "project(case(in($0, 1, 2), concat($1, 'x'), coalesce($1, '')), scan(t))", "y"},
		{"select a - 1 - a as a from t where b is not null and not (a > 0) is true", "project(sub(sub($0, 1), $0), select(and(not(isnull($1)), not(istrue(gt($0, 0)))), scan(t)))", "a"},
		{"select -a, length(b), b same b, (b is null) is true, a mod 2 from t", "project(neg($0), length($1), same($1, $1), istrue(isnull($1)), mod($0, 2), scan(t))", ",,,,"},
	})
	s := testSchema(t)
	q, err := Query(s, "select null text, null int from t")
	if want := []api.Expr{{Op: api.OpNull, Type: api.Text}, {Op: api.OpNull, Type: api.Int}}; err != api.OK || !reflect.DeepEqual(q.Exprs, want) {
		t.Error(q, err)
	}
}

func TestBindSets(t *testing.T) {
	for word, text := range map[string]string{"union": "union(distinct", "union all": "union(all", "except": "except(distinct", "except all": "except(all", "intersect": "intersect(distinct", "intersect all": "intersect(all"} {
		checkBound(t, []bound{
			{"select a as x, b from t " + word + " select a, d as y from q0", text + ", project($0, $1, scan(t)), project($0, $2, scan(q0)))", "x,b"},
			{"select a + 1 from t " + word + " select k as x from u", text + ", project(add($0, 1), scan(t)), project($0, scan(u)))", ""},
			{"select a from t " + word + " select k from u union select a from q0", "union(distinct, " + text + ", project($0, scan(t)), project($0, scan(u))), project($0, scan(q0)))", "a"},
			{"select a from t union (select k from u " + word + " select a from q0)", "union(distinct, project($0, scan(t)), " + text + ", project($0, scan(u)), project($0, scan(q0))))", "a"},
		})
	}
}

func TestBindDistinct(t *testing.T) {
	checkBound(t, []bound{
		{"select distinct b from t", "distinct(project($1, scan(t)))", "b"},
		{"select distinct * from t", "distinct(project($0, $1, scan(t)))", "a,b"},
		{"select distinct count(*) as n from t group by b", "distinct(project($1, group($1, count(*), scan(t))))", "n"},
		{"select distinct u.a + 1 as x from t join u on t.a = u.a", "distinct(project(add($3, 1), join(inner, eq($0, $3), scan(t), scan(u))))", "x"},
		{"select x from (select distinct a as x from t) as v", "project($0, distinct(project($0, scan(t))))", "x"},
	})
}

func TestBindGroups(t *testing.T) {
	checkBound(t, []bound{
		{"select b from t group by b", "project($0, group($1, scan(t)))", "b"},
		{"select max(a) from t", "project($0, group(max($0), scan(t)))", ""},
		{"select count(*), count(b), count(distinct b), sum(a), min(b), max(b) as m from t", "project($0, $1, $2, $3, $4, $5, group(count(*), count($1), countd($1), sum($0), min($1), max($1), scan(t)))", ",,,,,m"},
		{"select b, count(*) as n from t group by b having count(*) > 1", "project($0, $1, select(gt($1, 1), group($1, count(*), scan(t))))", "b,n"},
		{"select (a + 1) * 2, sum(a) + count(*), sum(a) from t group by a + 1", "project(mul($0, 2), add($1, $2), $1, group(add($0, 1), sum($0), count(*), scan(t)))", ",,"},
		{"select b from t where a > 1 group by b", "project($0, group($1, select(gt($0, 1), scan(t))))", "b"},
		{"select 1 from t group by a", "project(1, group($0, scan(t)))", ""},
		{"select 1 from t having count(*) > 0", "project(1, select(gt($0, 0), group(count(*), scan(t))))", ""},
		{"select sum(a) from t having true", "project($0, select(true, group(sum($0), scan(t))))", ""},
		{"select a, b from t group by a, b having a > 1 and b is null", "project($0, $1, select(and(gt($0, 1), isnull($1)), group($0, $1, scan(t))))", "a,b"},
		// Each different aggregate once, those of having behind those of the items.
		{"select sum(a) + sum(a), sum(t.a), count(a) from t as t having min(a) > 0 and sum(a) > 0 and count(*) > 0", "project(add($0, $0), $0, $1, select(and(and(gt($2, 0), gt($0, 0)), gt($3, 0)), group(sum($0), count($0), min($0), count(*), scan(t))))", ",,"},
		{"select count(a), count(distinct a), count(b), count(a) from t", "project($0, $1, $2, $0, group(count($0), countd($0), count($1), scan(t)))", ",,,"},
		{"select 1 + max(a) * min(a), max(a) from t", "project(add(1, mul($0, $1)), $0, group(max($0), min($0), scan(t)))", ","},
		// Keys from outside to inside, the first one of those that are the same.
		{"select a + 1 + a, (a + 1) + 1, a from t group by a, a + 1", "project(add($1, $0), add($1, 1), $0, group($0, add($0, 1), scan(t)))", ",,a"},
		{"select b, t.b, k, u.k from t cross join u group by t.b, k, b, u.k", "project($0, $0, $1, $1, group($1, $2, $1, $2, join(inner, true, scan(t), scan(u))))", "b,b,k,k"},
		{"select 5, 5 + a, 6 from t group by a, 5", "project($1, add($1, $0), 6, group($0, 5, scan(t)))", ",,"},
		{"select a = 1, a = 2 from t group by a = 1, a", "project($0, eq($1, 2), group(eq($0, 1), $0, scan(t)))", ","},
		{"select null int, null text from t group by null text", "project(null, $0, group(null, scan(t)))", ","},
		{"select case when b is null then count(*) else a end from t group by a, b is null", "project(case($1, $2, $0), group($0, isnull($1), count(*), scan(t)))", ""},
		// An aggregate has its argument below the group.
		{"select sum(a), a from t group by a", "project($1, $0, group($0, sum($0), scan(t)))", ",a"},
		{"select sum(k) from u group by c having max(a) = 1", "project($1, select(eq($2, 1), group($2, sum($0), max($1), scan(u))))", ""},
		{"select n from (select count(*) as n from t group by b) as v group by n", "project($0, group($0, project($1, group($1, count(*), scan(t)))))", "n"},
	})
}

func TestBindLeavesNothingShared(t *testing.T) {
	s := testSchema(t)
	x := statement(t, "select distinct b, sum(a) + 1 from t join (select k from u) as v on a in (k, 1) where a = 1 group by b having sum(a) > 1 union select d, 1 from q0")
	again := statement(t, sql.Text(x))
	q, names, err := Bind(s, x)
	if err != api.OK || !sql.Same(x, again) || !reflect.DeepEqual(s, testSchema(t)) {
		t.Fatal(err, sql.Text(x))
	}
	text := algebra.Text(q)
	scratch(reflect.ValueOf(&x).Elem())
	scratch(reflect.ValueOf(&s).Elem())
	if algebra.Text(q) != text || !slices.Equal(names, []string{"b", ""}) {
		t.Error(algebra.Text(q), names)
	}
}

// scratch changes all numbers and strings that a value has in it or behind its slices.
func scratch(v reflect.Value) {
	switch v.Kind() {
	case reflect.Struct:
		for i := range v.NumField() {
			scratch(v.Field(i))
		}
	case reflect.Slice:
		for i := range v.Len() {
			scratch(v.Index(i))
		}
	case reflect.Int, reflect.Int64:
		v.SetInt(math.MinInt64)
	case reflect.String:
		v.SetString("?")
	}
}
