package algebra

import (
	"reflect"
	"slices"
	"strings"
	"testing"

	"querylab/api"
)

func store() api.Schema {
	return api.Schema{Tables: []api.Table{
		{Name: "t", Columns: []api.Column{{Name: "a", Type: api.Int}, {Name: "b", Type: api.Text, Nullable: true}}, Primary: []int{0}},
		{Name: "u", Columns: []api.Column{{Name: "c", Type: api.Bool}}, Primary: []int{0}},
	}}
}

func wide(columns int) api.Query {
	return project(scan("t"), slices.Repeat([]api.Expr{col(1)}, columns)...)
}

func TestTypeOfQueries(t *testing.T) {
	aggs := []api.Agg{
		{Fun: api.AggRows}, {Fun: api.AggCount, Arg: col(1)}, {Fun: api.AggDistinct, Arg: below(0, 1)}, {Fun: api.AggSum, Arg: col(0)},
		{Fun: api.AggMin, Arg: col(1)}, {Fun: api.AggMax, Arg: below(0, 1)}, {Fun: api.AggMin, Arg: col(0)},
	}
	full := make([]int, api.MaxWidth)
	for i := range full {
		full[i] = i%3 + 1
	}
	for _, c := range []struct {
		q    api.Query
		want []int
	}{
		{scan("t"), []int{api.Int, api.Text}},
		{scan("u"), []int{api.Bool}},
		{values([]int{api.Text}), []int{api.Text}},
		{values(full, slices.Repeat([]api.Value{{}}, api.MaxWidth)), full},
		{values([]int{1, 2, 3}, []api.Value{integer(api.MaxInt), {Kind: api.Bool}, {Kind: api.Text}}, []api.Value{{}, {}, {Kind: api.Text, Text: "a"}}), []int{1, 2, 3}},
		{where(below(0, 5), scan("t")), []int{api.Int, api.Text}},
		{where(api.Expr{Op: api.OpNull, Type: api.Bool}, scan("t")), []int{api.Int, api.Text}},
		{where(col(0), scan("u")), []int{api.Bool}},
		{project(scan("t"), col(1), below(0, 5), col(0), num(3)), []int{api.Text, api.Bool, api.Int, api.Int}},
		{wide(api.MaxWidth), slices.Repeat([]int{api.Text}, api.MaxWidth)},
		{query(api.QDistinct, scan("t")), []int{api.Int, api.Text}},
		{group(scan("t"), aggs), []int{api.Int, api.Int, api.Int, api.Int, api.Text, api.Bool, api.Int}},
		{group(scan("t"), aggs[:1], col(1)), []int{api.Text, api.Int}},
		{group(scan("t"), nil, below(0, 5)), []int{api.Bool}},
		{group(scan("t"), slices.Repeat(aggs[:1], 23), col(1)), append([]int{api.Text}, slices.Repeat([]int{api.Int}, 23)...)},
		{where(below(1, 3), join(api.JoinSemi, col(2), project(scan("t"), col(1), col(0)), scan("u"))), []int{api.Text, api.Int}},
	} {
		if got, err := Type(store(), c.q); err != api.OK || !slices.Equal(got, c.want) {
			t.Errorf("Type of %s is %v, %d", Text(c.q), got, err)
		}
	}
}

func TestTypeOfJoinsAndSets(t *testing.T) {
	cond := op(api.OpAnd, col(2), below(0, 5)) // it needs the columns of both Kids
	for kind := api.JoinInner; kind <= api.JoinAnti; kind++ {
		want := []int{api.Int, api.Text, api.Bool}
		if kind == api.JoinSemi || kind == api.JoinAnti {
			want = want[:2]
		}
		if got, err := Type(store(), join(kind, cond, scan("t"), scan("u"))); err != api.OK || !slices.Equal(got, want) {
			t.Errorf("kind %d: %v, %d", kind, got, err)
		}
		if got, err := Type(store(), join(kind, num(1), wide(12), wide(13))); err != api.ErrArity || got != nil {
			t.Errorf("kind %d with 25 columns: %v, %d", kind, got, err)
		}
		truth := api.Expr{Op: api.OpBool}
		if got, err := Type(store(), join(kind, truth, wide(12), wide(12))); err != api.OK || len(got) != 24 && len(got) != 12 {
			t.Errorf("kind %d with 24 columns: %v, %d", kind, got, err)
		}
	}
	for _, o := range []int{api.QUnion, api.QExcept, api.QIntersect} {
		for _, all := range []bool{false, true} {
			q := query(o, scan("t"), values([]int{api.Int, api.Text}))
			q.All = all
			if got, err := Type(store(), q); err != api.OK || !slices.Equal(got, []int{api.Int, api.Text}) {
				t.Errorf("%s: %v, %d", Text(q), got, err)
			}
		}
	}
}

func TestTypeTakesEmptyFieldsAsZero(t *testing.T) {
	for o, kids := range map[int]int{api.QScan: 0, api.QUnion: 2, api.QDistinct: 1} {
		q := query(o, slices.Repeat([]api.Query{scan("t")}, kids)...)
		if o == api.QScan {
			q.Table = "t"
		}
		q.Cond.Kids = []api.Expr{}
		q.Exprs, q.Aggs, q.Types, q.Rows = []api.Expr{}, []api.Agg{}, []int{}, [][]api.Value{}
		if got, err := Type(store(), q); err != api.OK || !slices.Equal(got, []int{api.Int, api.Text}) {
			t.Errorf("%s: %v, %d", Text(q), got, err)
		}
	}
	rows := group(scan("t"), []api.Agg{{Fun: api.AggRows, Arg: api.Expr{Kids: []api.Expr{}}}})
	if got, err := Type(store(), rows); err != api.OK || !slices.Equal(got, []int{api.Int}) {
		t.Errorf("%v, %d", got, err)
	}
}

func TestTypeLimits(t *testing.T) {
	row := slices.Repeat([]api.Value{{}}, 10)
	types := slices.Repeat([]int{api.Int}, 10)
	sum := func(size int) api.Expr { // an odd size
		e := num(1)
		for Size(where(e, scan("t"))) < size+2 {
			e = op(api.OpAdd, num(1), e)
		}
		return e
	}
	in := func(size int) api.Expr { return op(api.OpIn, slices.Repeat([]api.Expr{num(1)}, size-1)...) }
	for _, c := range []struct {
		q    api.Query
		want api.Errno
	}{
		{chain(24), api.OK}, {chain(25), api.ErrDepth}, {chain(200), api.ErrDepth}, {chain(201), api.ErrLimit},
		{values(types, slices.Repeat([][]api.Value{row}, 19)...), api.OK},
		{values(types, append(slices.Repeat([][]api.Value{row}, 19), row[:9])...), api.ErrArity},
		{values(types, slices.Repeat([][]api.Value{row}, 20)...), api.ErrLimit},
		{where(in(198), scan("t")), api.OK}, {where(in(199), scan("t")), api.ErrLimit}, {where(in(9999), scan("t")), api.ErrLimit},
		{project(scan("t"), in(100), in(98)), api.OK}, {project(scan("t"), in(100), in(99)), api.ErrLimit},
		{group(scan("t"), []api.Agg{{Fun: api.AggMin, Arg: in(98)}, {Fun: api.AggRows}}, in(100)), api.OK}, {group(scan("t"), []api.Agg{{Fun: api.AggMin, Arg: in(99)}}, in(100)), api.ErrLimit},
		{group(scan("t"), []api.Agg{{Fun: api.AggRows, Arg: in(300)}}), api.ErrInvalid},
		{query(api.QUnion, where(in(100), scan("t")), where(in(95), scan("t"))), api.OK}, {query(api.QUnion, where(in(100), scan("t")), where(in(96), scan("t"))), api.ErrLimit},
		{api.Query{Op: api.QScan, Table: "t", Cond: in(300)}, api.ErrInvalid},
		{project(scan("t"), sum(47)), api.OK}, {project(scan("t"), sum(49)), api.ErrDepth},
		{project(scan("none"), sum(49)), api.ErrMissing}, {project(scan("t"), col(5), sum(49)), api.ErrName},
	} {
		if got, err := Type(store(), c.q); err != c.want || (err != api.OK && got != nil) {
			t.Errorf("Type of %.100s is %v, %d, not %d", Text(c.q), got, err, c.want)
		}
	}
}

func TestTypeOfHugeQueriesEnds(t *testing.T) {
	q, e := scan("t"), col(0)
	for range 100 {
		q, e = query(api.QUnion, q, q), op(api.OpAdd, e, e)
	}
	for _, huge := range []api.Query{
		q, where(e, scan("t")), project(scan("t"), num(1), e), join(1, e, q, q), group(scan("t"), []api.Agg{{Fun: api.AggSum, Arg: e}}),
	} {
		if got, err := Type(store(), huge); err != api.ErrLimit || got != nil {
			t.Errorf("%v, %d", got, err)
		}
	}
}

// wrong is a fault, and the error that it leads to.
type wrong struct {
	name   string
	change func(q *api.Query)
	want   api.Errno
}

// good returns a query that has this operator above all.
func good(o int) api.Query {
	aggs := []api.Agg{{Fun: api.AggRows}, {Fun: api.AggSum, Arg: col(0)}, {Fun: api.AggMax, Arg: col(1)}}
	switch o {
	case api.QScan:
		return scan("t")
	case api.QValues:
		return values([]int{api.Int, api.Bool, api.Text}, []api.Value{integer(1), {}, {}}, []api.Value{{}, {Kind: api.Bool}, {Kind: api.Text}})
	case api.QSelect:
		return where(below(0, 5), scan("t"))
	case api.QProject:
		return project(scan("t"), col(1), below(0, 5))
	case api.QJoin:
		return join(api.JoinFull, col(2), scan("t"), scan("u"))
	case api.QDistinct:
		return query(o, scan("t"))
	case api.QGroup:
		return group(scan("t"), aggs, col(1), below(0, 5))
	}
	return query(o, scan("t"), scan("t"))
}

// wrongBelow has the faults that come before those of the operator itself.
func wrongBelow() []wrong {
	putFirst := func(q *api.Query, kid api.Query) { q.Kids = append([]api.Query{kid}, q.Kids[min(1, len(q.Kids)):]...) }
	putSecond := func(q *api.Query, kid api.Query) {
		q.Kids = append(slices.Clone(q.Kids[:min(1, len(q.Kids))]), append([]api.Query{kid}, q.Kids[min(2, len(q.Kids)):]...)...)
	}
	return []wrong{
		{"size", func(q *api.Query) { q.Kids = append(slices.Clone(q.Kids), chain(200)) }, api.ErrLimit},
		{"depth", func(q *api.Query) { q.Kids = append(slices.Clone(q.Kids), chain(24)) }, api.ErrDepth},
		{"first kid", func(q *api.Query) { putFirst(q, query(api.QDistinct, scan("none"))) }, api.ErrMissing},
		{"second kid", func(q *api.Query) { putSecond(q, project(scan("t"), col(2))) }, api.ErrName},
		{"operator", func(q *api.Query) { q.Op = 11 }, api.ErrInvalid},
	}
}

// wrongFields has the faults of fields that are not among those that the operator uses.
func wrongFields(uses string) []wrong {
	var l []wrong
	add := func(field string, change func(q *api.Query)) {
		if !slices.Contains(strings.Fields(uses), field) {
			l = append(l, wrong{field, change, api.ErrInvalid})
		}
	}
	add("Table", func(q *api.Query) { q.Table = "t" })
	add("Kind", func(q *api.Query) { q.Kind = -1 })
	add("All", func(q *api.Query) { q.All = true })
	add("Cond", func(q *api.Query) { q.Cond = num(1) })
	add("Cond", func(q *api.Query) { q.Cond.Type = 1 })
	add("Cond", func(q *api.Query) { q.Cond.Num = 1 })
	add("Cond", func(q *api.Query) { q.Cond.Text = "a" })
	add("Cond", func(q *api.Query) { q.Cond.Column = 1 })
	add("Cond", func(q *api.Query) { q.Cond.Kids = []api.Expr{{}} })
	add("Exprs", func(q *api.Query) { q.Exprs = []api.Expr{{}} })
	add("Aggs", func(q *api.Query) { q.Aggs = []api.Agg{{}} })
	add("Types", func(q *api.Query) { q.Types = []int{0} })
	add("Rows", func(q *api.Query) { q.Rows = [][]api.Value{nil} })
	return l
}

func wrongNumbers(kids int) []wrong {
	var l []wrong
	for n := range 4 {
		if n != kids {
			l = append(l, wrong{"kids", func(q *api.Query) { q.Kids = slices.Repeat([]api.Query{scan("u")}, n) }, api.ErrArity})
		}
	}
	return l
}

func wrongCond() []wrong {
	return []wrong{
		{"no expression", func(q *api.Query) { q.Cond = api.Expr{} }, api.ErrInvalid},
		{"no bool", func(q *api.Query) { q.Cond = num(1) }, api.ErrType},
		{"no column", func(q *api.Query) { q.Cond = op(api.OpIsNull, col(3)) }, api.ErrName},
		{"arity", func(q *api.Query) { q.Cond = op(api.OpNot) }, api.ErrArity},
	}
}

func wrongValues() []wrong {
	l := []wrong{
		{"no types", func(q *api.Query) { q.Types = nil }, api.ErrType},
		{"types", func(q *api.Query) { q.Types = slices.Repeat([]int{api.Int}, 25) }, api.ErrType},
	}
	for i := range 3 {
		for _, n := range []int{0, 4, -1} {
			l = append(l, wrong{"type", func(q *api.Query) { q.Types = slices.Clone(q.Types); q.Types[min(i, len(q.Types)-1)] = n }, api.ErrType})
		}
	}
	bad := []api.Value{
		{Kind: api.Int, Num: api.MaxInt + 1}, {Kind: api.Bool, Num: 2}, {Kind: api.Text, Text: "'"}, {Num: 1}, {Text: "a"}, {Kind: 4},
		{Kind: api.Int, Text: "a"}, {Kind: api.Text, Num: 1},
	}
	types := []int{api.Int, api.Bool, api.Text}
	for r := range 2 {
		set := func(name string, row []api.Value, want api.Errno) {
			l = append(l, wrong{name, func(q *api.Query) { q.Rows = slices.Clone(q.Rows); q.Rows[r] = row }, want})
		}
		set("too few", []api.Value{{Kind: api.Text}, {}}, api.ErrArity)
		set("too many", []api.Value{{}, {}, {}, {}}, api.ErrArity)
		set("none", nil, api.ErrArity)
		for i, t := range types {
			for _, v := range append(bad, integer(1), api.Value{Kind: api.Bool}, api.Value{Kind: api.Text}) {
				row := make([]api.Value, 3)
				row[i] = v
				if v.Kind != t || slices.Contains(bad, v) {
					set("value", row, api.ErrType)
				}
			}
		}
	}
	return l
}

func wrongExprs(places int) []wrong {
	var l []wrong
	for i := range places {
		set := func(name string, e api.Expr, want api.Errno) {
			l = append(l, wrong{name, func(q *api.Query) {
				q.Exprs = slices.Clone(q.Exprs)
				q.Exprs[min(i, len(q.Exprs)-1)] = e
			}, want})
		}
		set("no expression", api.Expr{}, api.ErrInvalid)
		set("no column", col(2), api.ErrName)
		set("type", op(api.OpNot, col(0)), api.ErrType)
		set("arity", op(api.OpNot), api.ErrArity)
	}
	return l
}

func wrongAggs() []wrong {
	var l []wrong
	for i := range 3 {
		set := func(name string, a api.Agg, want api.Errno) {
			l = append(l, wrong{name, func(q *api.Query) { q.Aggs = slices.Clone(q.Aggs); q.Aggs[i] = a }, want})
		}
		for _, fun := range []int{-1 << 63, -1, 0, 7, 1<<63 - 1} {
			set("function", api.Agg{Fun: fun, Arg: col(9)}, api.ErrInvalid)
		}
		for _, arg := range []api.Expr{col(0), {Type: 1}, {Num: 1}, {Text: "a"}, {Column: 1}, op(0, num(1)), col(9)} {
			set("argument of rows", api.Agg{Fun: api.AggRows, Arg: arg}, api.ErrInvalid)
		}
		set("sum of text", api.Agg{Fun: api.AggSum, Arg: col(1)}, api.ErrType)
		set("sum of bool", api.Agg{Fun: api.AggSum, Arg: below(0, 1)}, api.ErrType)
		for fun := api.AggCount; fun <= api.AggMax; fun++ {
			set("no argument", api.Agg{Fun: fun}, api.ErrInvalid)
			set("no column", api.Agg{Fun: fun, Arg: col(2)}, api.ErrName)
			set("type", api.Agg{Fun: fun, Arg: op(api.OpNot, col(0))}, api.ErrType)
		}
	}
	return l
}

// allWrong has the faults of an operator in the order in which Type tells them.
func allWrong(o int) []wrong {
	l := wrongBelow()
	add := func(uses string, kids int, rest ...[]wrong) []wrong {
		return slices.Concat(l, wrongFields(uses), wrongNumbers(kids), slices.Concat(rest...))
	}
	switch o {
	case api.QScan:
		return add("Table", 0, []wrong{{"table", func(q *api.Query) { q.Table = "T" }, api.ErrMissing}})
	case api.QValues:
		return add("Types Rows", 0, wrongValues())
	case api.QSelect:
		return add("Cond", 1, wrongCond())
	case api.QProject:
		none := wrong{"no expressions", func(q *api.Query) { q.Exprs = nil }, api.ErrArity}
		many := wrong{"expressions", func(q *api.Query) { q.Exprs = slices.Repeat([]api.Expr{col(5)}, 25) }, api.ErrArity}
		return add("Exprs", 1, []wrong{none, many}, wrongExprs(2))
	case api.QJoin:
		low := wrong{"kind", func(q *api.Query) { q.Kind = 0 }, api.ErrInvalid}
		high := wrong{"kind", func(q *api.Query) { q.Kind = 7 }, api.ErrInvalid}
		both := wrong{"columns", func(q *api.Query) { q.Kids = []api.Query{wide(23), scan("t")} }, api.ErrArity}
		return add("Kind Cond", 2, []wrong{low, high, both}, wrongCond())
	case api.QDistinct:
		return add("", 1)
	case api.QGroup:
		none := wrong{"no columns", func(q *api.Query) { q.Exprs, q.Aggs = nil, nil }, api.ErrArity}
		many := wrong{"columns", func(q *api.Query) { q.Exprs = slices.Repeat([]api.Expr{col(5)}, 22) }, api.ErrArity}
		return add("Exprs Aggs", 1, []wrong{none, many}, wrongExprs(2), wrongAggs())
	}
	types := func(kid api.Query) wrong {
		return wrong{"types", func(q *api.Query) { q.Kids = []api.Query{scan("t"), kid} }, api.ErrType}
	}
	return add("All", 2, []wrong{types(scan("u")), types(values([]int{1})), types(values([]int{3, 1})), types(values([]int{1, 3, 1}))})
}

func TestTypeTellsEachError(t *testing.T) {
	for o := api.QScan; o <= api.QGroup; o++ {
		if _, err := Type(store(), good(o)); err != api.OK {
			t.Fatalf("operator %d: %d", o, err)
		}
		for _, w := range allWrong(o) {
			q := good(o)
			w.change(&q)
			if got, err := Type(store(), q); err != w.want || got != nil {
				t.Errorf("operator %d, %s: %v, %d, not %d", o, w.name, got, err, w.want)
			}
			if got, err := Type(store(), query(api.QUnion, q, scan("none"))); w.want != api.ErrDepth && err != w.want || got != nil {
				t.Errorf("operator %d below another one, %s: %v, %d, not %d", o, w.name, got, err, w.want)
			}
		}
	}
}

func TestTypeTellsTheFirstError(t *testing.T) {
	for o := api.QScan; o <= api.QGroup; o++ {
		l := allWrong(o)
		for i, w := range l {
			for _, later := range l[i+1:] {
				q := good(o)
				later.change(&q)
				w.change(&q)
				if got, err := Type(store(), q); err != w.want || got != nil {
					t.Fatalf("operator %d, %s and %s: %v, %d, not %d: %s", o, w.name, later.name, got, err, w.want, Text(q))
				}
			}
		}
	}
}

func TestTypeOfUnknownOperators(t *testing.T) {
	for _, o := range unknownOps() {
		for n := range 4 {
			q := query(o, slices.Repeat([]api.Query{scan("t")}, n)...)
			if got, err := Type(store(), q); err != api.ErrInvalid || got != nil {
				t.Errorf("operator %d: %v, %d", o, got, err)
			}
		}
		if got, err := Type(store(), query(o, scan("none"))); err != api.ErrMissing || got != nil {
			t.Errorf("operator %d: %v, %d", o, got, err)
		}
	}
	if got, err := Type(api.Schema{}, scan("")); err != api.ErrMissing || got != nil {
		t.Errorf("no tables: %v, %d", got, err)
	}
}

func TestTypeMakesNewMemory(t *testing.T) {
	fresh := func() []api.Query {
		v := values([]int{api.Int, api.Text}, []api.Value{{}, {}})
		return []api.Query{v, scan("t"), where(below(0, 5), v), join(api.JoinSemi, below(0, 5), v, v), query(api.QUnion, v, v), query(api.QDistinct, v), good(api.QGroup)}
	}
	s := store()
	for i, q := range fresh() {
		got, _ := Type(s, q)
		want := slices.Clone(got)
		got[0] = 9
		if again, err := Type(s, q); err != api.OK || !slices.Equal(again, want) || !reflect.DeepEqual(q, fresh()[i]) || !reflect.DeepEqual(s, store()) {
			t.Errorf("an argument was changed: %s", Text(q))
		}
	}
}
