package bind

import (
	"maps"
	"math"
	"reflect"
	"slices"
	"strings"
	"testing"

	"querylab/algebra"
	"querylab/api"
	"querylab/sql"
)

func checkError(t *testing.T, s api.Schema, text string, want api.Errno) {
	t.Helper()
	q, names, err := Bind(s, statement(t, text))
	if err != want || (names == nil) != (err != api.OK) || algebra.Same(q, api.Query{}) != (err != api.OK) {
		t.Errorf("%s: %d, not %d, with %s and %q", text, err, want, algebra.Text(q), names)
	}
	again, err := Query(s, text)
	if err != want || !algebra.Same(q, again) {
		t.Errorf("%s: %d, not %d, with %s", text, err, want, algebra.Text(again))
	}
}

func TestBindErrors(t *testing.T) {
	s := testSchema(t)
	for text, want := range map[string]api.Errno{
		// Sources.
		"select a from none": api.ErrMissing, "select a from t join none on true": api.ErrMissing, "select a from t cross join none": api.ErrMissing, "select a from none as t": api.ErrMissing,
		"select a from t join t on true": api.ErrDuplicate, "select a from t cross join t": api.ErrDuplicate, "select 1 from t as u join u on true": api.ErrDuplicate, "select 1 from u join t as u on true": api.ErrDuplicate, "select 1 from t as v join u as v on true": api.ErrDuplicate, "select 1 from t join (select k from u) as t on true": api.ErrDuplicate,
		"select 1 from t semi join u on true join u on true": api.ErrDuplicate, "select 1 from t anti join u on true semi join q0 as u on true": api.ErrDuplicate, "select 1 from t semi join q0 as t on true": api.ErrDuplicate,
		// Names.
		"select x from t": api.ErrName, "select u.a from t": api.ErrName, "select t.a from t as v": api.ErrName, "select t.k from t join u on true": api.ErrName, "select t.x from t": api.ErrName, "select a.t from t": api.ErrName,
		"select a from t join u on true": api.ErrDuplicate, "select 1 from t join u on a = 1": api.ErrDuplicate, "select 1 from t cross join u where a = 1": api.ErrDuplicate, "select 1 from t cross join u group by a": api.ErrDuplicate, "select count(a) from t cross join u": api.ErrDuplicate, "select 1 from t cross join u group by t.a having a = 1": api.ErrDuplicate, "select a from t cross join u group by t.a": api.ErrDuplicate,
		"select a from (select a, b as a from t) as v": api.ErrDuplicate, "select v.a from (select a, b as a from t) as v": api.ErrDuplicate, "select a from (select * from t cross join u) as v": api.ErrDuplicate,
		"select c0 from (select a + 1 from t) as v": api.ErrName, "select a from (select a as x from t) as v": api.ErrName, "select b from (select a from t) as v": api.ErrName, "select t.a from (select a from t) as v": api.ErrName, "select y from (select a as x from t union select k as y from u) as v": api.ErrName,
		// Scopes.
		"select 1 from t join u on q0.a = 1 join q0 on true": api.ErrName, "select k from t semi join u on true": api.ErrName, "select u.k from t anti join u on true": api.ErrName, "select 1 from t semi join u on true where c": api.ErrName, "select 1 from t semi join u on true join q0 on c": api.ErrName, "select 1 from t anti join u on true anti join q0 on c": api.ErrName,
		"select 1 from t where x": api.ErrName, "select a as x from t where x = 1": api.ErrName, "select a as x from t group by x": api.ErrName, "select a as x, x from t": api.ErrName, "select 1 from t join (select t.a from u) as v on true": api.ErrName,
		// Aggregates where there are none.
		"select 1 from t where count(*) > 1": api.ErrInvalid, "select 1 from t join u on sum(k) > 1": api.ErrInvalid, "select 1 from t group by count(*)": api.ErrInvalid, "select 1 from t group by a, 1 + max(a)": api.ErrInvalid,
		"select sum(count(*)) from t": api.ErrInvalid, "select sum(1 + sum(a)) from t": api.ErrInvalid, "select 1 from t having sum(sum(a)) > 1": api.ErrInvalid, "select max(a) from t group by a having min(max(a)) = 1": api.ErrInvalid,
		"select * from t group by a": api.ErrInvalid, "select * from t having true": api.ErrInvalid, "select distinct * from t group by a, b": api.ErrInvalid,
		// Above a group.
		"select b from t group by a": api.ErrReference, "select a from t group by a + 1": api.ErrReference, "select a + 1 from t group by a + 2": api.ErrReference, "select 1 + a from t group by a + 1": api.ErrReference, "select b, count(*) from t": api.ErrReference, "select 1 from t having a = 1": api.ErrReference, "select 1 from t group by b having a = 1": api.ErrReference, "select sum(a) + a from t": api.ErrReference, "select t.a from t join u on true group by u.a": api.ErrReference,
		"select x from t group by a": api.ErrName, "select u.a from t group by a": api.ErrName, "select x + count(*) from t": api.ErrName, "select 1 from t group by b having x = 1": api.ErrName, "select sum(a) as x from t having x = 1": api.ErrName, "select count(x) from t": api.ErrName, "select 1 from t having count(x) > 1": api.ErrName,
		// Within a term from left to right, and from outside to inside.
		"select x + count(*) from t where y + count(*) = 1": api.ErrName, "select 1 from t where count(*) + y = 1": api.ErrInvalid, "select 1 from t where count(y) = 1": api.ErrInvalid, "select 1 from t cross join u where a + y = 1": api.ErrDuplicate, "select 1 from t cross join u where y + a = 1": api.ErrName, "select 1 from t cross join u where 1 in (k, a, y)": api.ErrDuplicate, "select sum(y + sum(a)) from t": api.ErrName, "select sum(sum(y) + y) from t": api.ErrInvalid,
		"select b || x from t group by a": api.ErrReference, "select x || b from t group by a": api.ErrName, "select case when a = 1 then b else x end from t group by a": api.ErrReference, "select case when a = x then b else a end from t group by a": api.ErrName,
		// Types, at last.
		"select a + b from t": api.ErrType, "select a from t where a": api.ErrType, "select 1 from t join u on k": api.ErrType, "select sum(b) from t": api.ErrType, "select b + 1 from t group by b": api.ErrType, "select 1 from t group by b having b": api.ErrType, "select a from t union select c from u": api.ErrType, "select a from t except select a, b from t": api.ErrType, "select x from (select a + b as x from t) as v": api.ErrType, "select x from (select a + b from t) as v": api.ErrName, "select 1 from (select a + b as x from t) as v where y": api.ErrName, "select a + b from t union select x from t": api.ErrName,
		"select 1 from t having true": api.ErrArity, "select 1 from t having 1 = 2": api.ErrArity,
	} {
		checkError(t, s, text, want)
	}
}

func TestBindHasTheErrorsOfTypes(t *testing.T) {
	s := testSchema(t)
	wide := strings.Repeat("a, ", 23)
	checkError(t, s, "select "+wide+"a, a from t", api.ErrArity)
	checkError(t, s, "select * from t cross join (select "+wide+"a from t) as v", api.ErrArity)
	checkError(t, s, "select * from (select "+wide+"a from t) as v semi join t on true", api.ErrArity)
	checkError(t, s, "select 1 from t where a in ("+strings.Repeat("1, ", 196)+"1)", api.ErrLimit)
	checkError(t, s, "select 1 from t where a in ("+strings.Repeat("1, ", 196)+"b)", api.ErrLimit)
	checkError(t, s, "select 1 from t where a in ("+strings.Repeat("1, ", 196)+"x)", api.ErrName)
	checkError(t, s, "select x from t where a in ("+strings.Repeat("1, ", 196)+"b)", api.ErrName)
	joins := ""
	for _, name := range strings.Split("a b c d e f g h i j k l m n o p q r s v w x y", " ") {
		joins += " semi join t as " + name + " on true"
	}
	checkError(t, s, "select 1 from t"+joins, api.ErrDepth)
	checkError(t, s, "select 1 + b from t"+joins, api.ErrDepth)
	for text, size := range map[string]int{"select 1 from t where a in (" + strings.Repeat("1, ", 193) + "1)": 200, "select " + wide + "a from t": 26, "select * from (select " + strings.Repeat("a, ", 21) + "a from t) as v cross join t": 25 + 2 + 23 + 1 + 1} {
		q, err := Query(s, text)
		if err != api.OK || algebra.Size(q) != size {
			t.Errorf("%s: %d, size %d", text, err, algebra.Size(q))
		}
	}
	if q, err := Query(s, "select 1 from t"+strings.TrimSuffix(joins, " semi join t as y on true")); err != api.OK || algebra.Depth(q) != 24 {
		t.Error(err, algebra.Depth(q))
	}
}

// slot is a place of a statement, and what can be wrong in it.
type slot struct {
	name   string
	faults map[string]api.Errno
}

// checkOrder puts one fault, or two of them, into a text with slots, which is right with these parts in them. Those of the first slot count.
func checkOrder(text string, right map[string]string, slots []slot, check func(text string, want api.Errno)) {
	names := slices.Sorted(maps.Keys(right))
	fill := func(changes map[string]string) string {
		var pairs []string
		for _, name := range names {
			part := right[name]
			if other, ok := changes[name]; ok {
				part = other
			}
			pairs = append(pairs, name, part)
		}
		return strings.NewReplacer(pairs...).Replace(text)
	}
	check(fill(nil), api.OK)
	for i, first := range slots {
		for fault, want := range first.faults {
			check(fill(map[string]string{first.name: fault}), want)
			for _, second := range slots[i+1:] {
				for other := range second.faults {
					if second.name != first.name {
						check(fill(map[string]string{first.name: fault, second.name: other}), want)
					}
				}
			}
		}
	}
}

// wrongTerms are terms that have an error over any scope of these tests, and below a group.
func wrongTerms() map[string]api.Errno {
	return map[string]api.Errno{"nowhere is null": api.ErrName, "t.c": api.ErrName, "count(*) > 0": api.ErrInvalid, "1 in (count(*), nowhere)": api.ErrInvalid, "1 in (nowhere, count(*))": api.ErrName}
}

func wrongSources(name string) map[string]api.Errno {
	return map[string]api.Errno{"none as " + name: api.ErrMissing, "(select nowhere from t) as " + name: api.ErrName, "(select a from t where count(*) = 1) as " + name: api.ErrInvalid, "(select * from u join u on nowhere) as " + name: api.ErrDuplicate, "(select * from u group by k) as " + name: api.ErrInvalid, "(select a from t group by b) as " + name: api.ErrReference}
}

func TestBindTellsTheFirstErrorOfGroups(t *testing.T) {
	s := testSchema(t)
	check := func(text string, want api.Errno) { checkError(t, s, text, want) }
	form := "select ITEM1, ITEM2 from FROM join JOIN1 on ON1 semi join JOIN2 on ON2 cross join JOIN3 where WHERE group by KEY1, KEY2 having HAVING"
	right := map[string]string{"ITEM1": "t.a", "ITEM2": "count(u.k) + t.a", "FROM": "t", "JOIN1": "u", "ON1": "t.a = k", "JOIN2": "u as v", "ON2": "v.k = t.a", "JOIN3": "q0", "WHERE": "c0", "KEY1": "t.a", "KEY2": "b", "HAVING": "max(c0) and t.a > 1"}
	above := map[string]api.Errno{"nowhere": api.ErrName, "k": api.ErrReference, "a": api.ErrDuplicate, "k + nowhere": api.ErrReference, "nowhere + k": api.ErrName, "count(*) + k": api.ErrReference}
	below := map[string]api.Errno{"count(nowhere)": api.ErrName, "sum(sum(k))": api.ErrInvalid, "sum(a)": api.ErrDuplicate, "k + count(nowhere)": api.ErrName}
	checkOrder(form, right, []slot{
		{"FROM", wrongSources("t")},
		{"JOIN1", wrongSources("u")}, {"JOIN1", map[string]api.Errno{"u as t": api.ErrDuplicate, "(select k from u) as t": api.ErrDuplicate, "none as t": api.ErrMissing}}, {"ON1", wrongTerms()},
		{"JOIN2", wrongSources("v")}, {"JOIN2", map[string]api.Errno{"q0 as t": api.ErrDuplicate, "q0 as u": api.ErrDuplicate, "none as u": api.ErrMissing}}, {"ON2", wrongTerms()},
		{"JOIN3", wrongSources("q0")}, {"JOIN3", map[string]api.Errno{"q0 as t": api.ErrDuplicate, "q0 as v": api.ErrDuplicate, "none as v": api.ErrMissing}},
		{"WHERE", wrongTerms()},
		{"KEY1", wrongTerms()}, {"KEY2", wrongTerms()},
		{"ITEM1", below}, {"ITEM2", below}, {"HAVING", below},
		{"HAVING", above}, {"ITEM1", above}, {"ITEM2", above},
		{"HAVING", map[string]api.Errno{"count(*)": api.ErrType}},
	}, check)
	checkOrder(strings.Replace(form, "ITEM1, ITEM2", "STAR", 1), map[string]string{"STAR": "1", "FROM": "t", "JOIN1": "u", "ON1": "t.a = k", "JOIN2": "u as v", "ON2": "v.k = t.a", "JOIN3": "q0", "WHERE": "c0", "KEY1": "t.a", "KEY2": "b", "HAVING": "max(c0) and t.a > 1"}, []slot{
		{"FROM", wrongSources("t")}, {"JOIN1", wrongSources("u")}, {"ON1", wrongTerms()}, {"JOIN3", wrongSources("q0")}, {"WHERE", wrongTerms()},
		{"STAR", map[string]api.Errno{"*": api.ErrInvalid}},
		{"KEY1", wrongTerms()}, {"KEY2", wrongTerms()}, {"HAVING", below}, {"HAVING", above},
	}, check)
}

func TestBindTellsTheFirstErrorWithoutGroups(t *testing.T) {
	s := testSchema(t)
	check := func(text string, want api.Errno) { checkError(t, s, text, want) }
	names := map[string]api.Errno{"nowhere": api.ErrName, "a": api.ErrDuplicate, "a + nowhere": api.ErrDuplicate, "nowhere + a": api.ErrName}
	checkOrder("select ITEM1, ITEM2 from FROM anti join JOIN1 on ON1 full join JOIN2 on ON2 where WHERE", map[string]string{"ITEM1": "t.a", "ITEM2": "q0.a + t.a", "FROM": "t", "JOIN1": "u", "ON1": "t.a = k", "JOIN2": "q0", "ON2": "c0", "WHERE": "b = d"}, []slot{
		{"FROM", wrongSources("t")},
		{"JOIN1", wrongSources("u")}, {"JOIN1", map[string]api.Errno{"u as t": api.ErrDuplicate}}, {"ON1", wrongTerms()},
		{"JOIN2", wrongSources("q0")}, {"JOIN2", map[string]api.Errno{"q0 as t": api.ErrDuplicate, "q0 as u": api.ErrDuplicate}}, {"ON2", wrongTerms()},
		{"WHERE", wrongTerms()}, {"WHERE", names},
		{"ITEM1", names}, {"ITEM2", names}, {"ITEM1", map[string]api.Errno{"b + 1": api.ErrType}},
	}, check)
	both := map[string]api.Errno{"select nowhere from t": api.ErrName, "select a from none": api.ErrMissing, "select a from t where sum(a) = 1": api.ErrInvalid, "select t.a from t cross join t": api.ErrDuplicate}
	for _, word := range []string{"union", "except all", "intersect"} {
		checkOrder("FIRST "+word+" SECOND union all (THIRD)", map[string]string{"FIRST": "select a from t", "SECOND": "select k from u", "THIRD": "select a from q0"}, []slot{
			{"FIRST", both}, {"SECOND", both}, {"THIRD", both}, {"FIRST", map[string]api.Errno{"select b from t": api.ErrType}}, {"THIRD", map[string]api.Errno{"select b from t": api.ErrType}},
		}, check)
	}
}

func TestBindOfWhatIsNotValid(t *testing.T) {
	s := testSchema(t)
	x := statement(t, "select a from t")
	deep := statement(t, "select "+strings.Repeat("-", 22)+"a from t")
	deep.Items[0].Term = api.Term{Op: api.OpNeg, Kids: []api.Term{deep.Items[0].Term}}
	unknown := statement(t, "select nowhere from none")
	for name, wrong := range map[string]func(s *api.Schema, x *api.Statement){
		"schema":              func(s *api.Schema, x *api.Statement) { s.Tables[2].Primary = nil },
		"name of a table":     func(s *api.Schema, x *api.Statement) { s.Tables[2].Name = "" },
		"no statement":        func(s *api.Schema, x *api.Statement) { *x = api.Statement{} },
		"depth":               func(s *api.Schema, x *api.Statement) { *x = deep },
		"empty name":          func(s *api.Schema, x *api.Statement) { x.Items[0].Term.Text = "" },
		"empty qualifier":     func(s *api.Schema, x *api.Statement) { x.From.Query, x.From.Table = []api.Statement{unknown}, "" },
		"another field":       func(s *api.Schema, x *api.Statement) { x.All = true },
		"schema and unknown":  func(s *api.Schema, x *api.Statement) { *x, s.Tables[1].Columns[0].Type = unknown, 0 },
		"schema without need": func(s *api.Schema, x *api.Statement) { s.Tables = append(s.Tables, api.Table{Name: "v"}) },
	} {
		s, x := testSchema(t), statement(t, sql.Text(x))
		wrong(&s, &x)
		if q, names, err := Bind(s, x); err != api.ErrInvalid || names != nil || !algebra.Same(q, api.Query{}) {
			t.Errorf("%s: %d", name, err)
		}
	}
	if q, _, err := Bind(s, x); err != api.OK || algebra.Text(q) != "project($0, scan(t))" {
		t.Error(err)
	}
	if _, _, err := Bind(api.Schema{}, x); err != api.ErrMissing {
		t.Error(err)
	}
}

func TestQueryHasTheErrorsOfParse(t *testing.T) {
	s, wrong := testSchema(t), api.Schema{Tables: []api.Table{{}}}
	for text, want := range map[string]api.Errno{
		"": api.ErrSyntax, "select from t": api.ErrSyntax, "select nowhere from none ;": api.ErrSyntax, "select nowhere from none" + strings.Repeat(" ", api.MaxSource): api.ErrLimit, strings.Repeat("!", api.MaxSource+1): api.ErrLimit, "select nowhere from none where " + strings.Repeat("not ", 24) + "a": api.ErrDepth,
	} {
		for _, over := range []api.Schema{s, wrong, {}} {
			if q, err := Query(over, text); err != want || !algebra.Same(q, api.Query{}) {
				t.Errorf("%.40s: %d, not %d", text, err, want)
			}
		}
	}
	if q, err := Query(wrong, "select nowhere from none"); err != api.ErrInvalid || !algebra.Same(q, api.Query{}) {
		t.Error(err)
	}
}

func TestTerm(t *testing.T) {
	scope := []api.Column{{Name: "a", Type: api.Int}, {Name: "b", Type: api.Text, Nullable: true}, {Name: "twice", Type: api.Int}, {Name: "twice", Type: api.Bool}, {Name: "odd", Type: 7}, {Name: "", Type: api.Int}, {Name: "table", Type: api.Int}, {Name: "c", Type: api.Bool}}
	for text, want := range map[string]string{
		"a": "$0", "b": "$1", "c": "$7", "a + 1 = 2 and c": "and(eq(add($0, 1), 2), $7)", "1": "1", "null text": "null", "b in ('x', b)": "in($1, 'x', $1)", "case when c then -a else length(b) end": "case($7, neg($0), length($1))",
	} {
		x, _, _ := sql.ParseTerm(text)
		e, err := Term(scope, x)
		if q := (api.Query{Op: api.QSelect, Cond: e}); err != api.OK || algebra.Text(q) != "select("+want+")" {
			t.Errorf("%s: %s, %d", text, algebra.Text(q), err)
		}
	}
	for text, want := range map[string]api.Errno{
		"d": api.ErrName, "t.a": api.ErrName, "a.a": api.ErrName, "odd.odd": api.ErrName, "twice": api.ErrDuplicate, "t.twice": api.ErrName, "count(*)": api.ErrInvalid, "count(d)": api.ErrInvalid, "max(a)": api.ErrInvalid,
		"a + d + twice": api.ErrName, "twice + d": api.ErrDuplicate, "d + count(*)": api.ErrName, "count(*) + d": api.ErrInvalid, "twice + count(*)": api.ErrDuplicate, "a in (a, count(twice), d)": api.ErrInvalid,
		"odd": api.ErrType, "a + b": api.ErrType, "a and c": api.ErrType, "a + b + d": api.ErrName, "a + odd + t.a": api.ErrName, "not a": api.ErrType, "b = a": api.ErrType,
		"a in (" + strings.Repeat("1, ", 197) + "1)": api.OK, "a in (" + strings.Repeat("1, ", 198) + "1)": api.ErrLimit, "a in (" + strings.Repeat("1, ", 198) + "d)": api.ErrName, "a in (" + strings.Repeat("1, ", 198) + "b)": api.ErrLimit,
		strings.Repeat("-", 23) + "a": api.OK,
	} {
		x, _, err := sql.ParseTerm(text)
		if err != api.OK {
			t.Fatal(text, err)
		}
		e, err := Term(scope, x)
		if err != want || (err == api.OK) == reflect.DeepEqual(e, api.Expr{}) {
			t.Errorf("%s: %d, not %d", text, err, want)
		}
	}
	if _, err := Term(nil, api.Term{Op: api.OpInt, Num: 1}); err != api.OK {
		t.Error(err)
	}
}

func TestTermOfWhatIsNotValid(t *testing.T) {
	scope := []api.Column{{Name: "a", Type: api.Int}, {Name: "", Type: api.Int}, {Name: "table", Type: api.Int}}
	a := api.Term{Op: api.TermName, Text: "a"}
	deep := a
	for range api.MaxDepth {
		deep = api.Term{Op: api.OpNeg, Kids: []api.Term{deep}}
	}
	for _, x := range []api.Term{
		{}, deep, {Op: api.TermName}, {Op: api.TermName, Text: "table"}, {Op: api.TermName, Text: "a", Num: 1}, {Op: api.TermName, Text: "a", Qualifier: "T"}, {Op: api.OpColumn}, {Op: api.OpInt, Num: api.MaxInt + 1}, {Op: api.OpBool, Num: 2}, {Op: api.OpText, Text: "'"}, {Op: api.OpNull}, {Op: math.MinInt},
		{Op: api.OpAdd, Kids: []api.Term{a}}, {Op: api.OpAdd, Kids: []api.Term{a, a, a}}, {Op: api.OpAdd, Kids: []api.Term{{Op: api.TermName, Text: "d"}, {}}}, {Op: api.TermAgg, Num: 7, Kids: []api.Term{a}}, {Op: api.TermAgg, Num: 2}, {Op: api.OpNeg, Type: api.Int, Kids: []api.Term{a}},
	} {
		if e, err := Term(scope, x); err != api.ErrInvalid || !reflect.DeepEqual(e, api.Expr{}) {
			t.Errorf("%v: %d", x, err)
		}
	}
}

func TestTermLeavesNothingShared(t *testing.T) {
	scope := []api.Column{{Name: "a", Type: api.Int}}
	x, _, _ := sql.ParseTerm("a in (1, a + 2)")
	again, _, _ := sql.ParseTerm("a in (1, a + 2)")
	e, err := Term(scope, x)
	if err != api.OK || !sql.SameTerm(x, again) || scope[0].Name != "a" {
		t.Fatal(err)
	}
	scratch(reflect.ValueOf(&x).Elem())
	if other, _ := Term(scope, again); !reflect.DeepEqual(e, other) {
		t.Error(e)
	}
}
