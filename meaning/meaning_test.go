package meaning

import (
	"slices"
	"strings"
	"testing"

	"querylab/api"
)

type row = []api.Value

var null = api.Value{}

func num(n int64) api.Value {
	return api.Value{Kind: api.Int, Num: n}
}

func text(s string) api.Value {
	return api.Value{Kind: api.Text, Text: s}
}

func truth(n int64) api.Value {
	return api.Value{Kind: api.Bool, Num: n}
}

func column(k int) api.Expr {
	return api.Expr{Op: api.OpColumn, Column: k}
}

func lit(n int64) api.Expr {
	return api.Expr{Op: api.OpInt, Num: n}
}

func always(n int64) api.Expr {
	return api.Expr{Op: api.OpBool, Num: n}
}

func op(o int, kids ...api.Expr) api.Expr {
	return api.Expr{Op: o, Kids: kids}
}

func scan(table string) api.Query {
	return api.Query{Op: api.QScan, Table: table}
}

func filter(cond api.Expr, kid api.Query) api.Query {
	return api.Query{Op: api.QSelect, Cond: cond, Kids: []api.Query{kid}}
}

func projection(kid api.Query, exprs ...api.Expr) api.Query {
	return api.Query{Op: api.QProject, Exprs: exprs, Kids: []api.Query{kid}}
}

func joined(kind int, cond api.Expr, first, second api.Query) api.Query {
	return api.Query{Op: api.QJoin, Kind: kind, Cond: cond, Kids: []api.Query{first, second}}
}

func set(o int, all bool, first, second api.Query) api.Query {
	return api.Query{Op: o, All: all, Kids: []api.Query{first, second}}
}

func grouping(kid api.Query, exprs []api.Expr, aggs ...api.Agg) api.Query {
	return api.Query{Op: api.QGroup, Exprs: exprs, Aggs: aggs, Kids: []api.Query{kid}}
}

// literal returns the query of some integers in one column.
func literal(l ...api.Value) api.Query {
	q := api.Query{Op: api.QValues, Types: []int{api.Int}}
	for _, v := range l {
		q.Rows = append(q.Rows, row{v})
	}
	return q
}

// shop has tables with a column of each type, keys and a check, to none of which Fits has to pay attention.
func shop() api.Schema {
	return api.Schema{Tables: []api.Table{
		{
			Name: "t",
			Columns: []api.Column{
				{Name: "a", Type: api.Int},
				{Name: "b", Type: api.Text, Nullable: true},
				{Name: "c", Type: api.Bool, Nullable: true},
			},
			Primary:  []int{0},
			Uniques:  [][]int{{1}},
			Foreigns: []api.Foreign{{Columns: []int{0}, Table: "u"}},
			Checks:   []api.Expr{op(api.OpGt, column(0), lit(0))},
		},
		{Name: "u", Columns: []api.Column{{Name: "d", Type: api.Int}}, Primary: []int{0}},
	}}
}

func goods() api.Instance {
	return api.Instance{Tables: [][]row{
		{
			{num(3), text("x"), truth(1)},
			{num(1), null, null},
			{num(2), text("x"), truth(0)},
			{num(1), null, null},
			{null, text("y"), truth(1)},
		},
		{{num(1)}, {null}, {num(5)}},
	}}
}

func sameRows(a, b []row) bool {
	return slices.EqualFunc(a, b, slices.Equal)
}

// instance returns one whose second table has these rows.
func instance(rows ...row) api.Instance {
	return api.Instance{Tables: [][]row{nil, rows}}
}

func TestFits(t *testing.T) {
	for name, i := range map[string]api.Instance{
		"rows":            goods(),
		"no rows":         {Tables: [][]row{nil, {}}},
		"limit":           instance(slices.Repeat([]row{{num(1)}}, api.MaxRows)...),
		"greatest values": {Tables: [][]row{{{num(-api.MaxInt), text(strings.Repeat("~", api.MaxText)), truth(1)}}, {{num(api.MaxInt)}}}},
		"null in a key":   instance(row{null}, row{null}),
		"check":           {Tables: [][]row{{{num(-1), null, null}}, nil}},
		"foreign key":     {Tables: [][]row{{{num(7), null, null}}, nil}},
		"unique key":      {Tables: [][]row{{{num(7), text("a"), null}, {num(8), text("a"), null}}, nil}},
	} {
		if err := Fits(shop(), i); err != api.OK {
			t.Errorf("%s: %d", name, err)
		}
	}
	if err := Fits(api.Schema{}, api.Instance{}); err != api.OK {
		t.Errorf("no tables: %d", err)
	}
	if err := Fits(api.Schema{}, api.Instance{Tables: [][]row{}}); err != api.OK {
		t.Errorf("empty tables: %d", err)
	}
}

func TestFitsErrors(t *testing.T) {
	many := slices.Repeat([]row{{num(1)}}, api.MaxRows+1)
	for name, c := range map[string]struct {
		i    api.Instance
		want api.Errno
	}{
		"no tables":                {api.Instance{}, api.ErrArity},
		"a table too few":          {api.Instance{Tables: [][]row{{{num(1)}}}}, api.ErrArity},
		"a table too many":         {api.Instance{Tables: [][]row{{{text("x"), null, null}}, many, nil}}, api.ErrArity},
		"an empty table too many":  {api.Instance{Tables: [][]row{nil, nil, nil}}, api.ErrArity},
		"a row too many":           {instance(many...), api.ErrLimit},
		"limit before rows":        {instance(append([]row{{}, {text("x")}}, many...)...), api.ErrLimit},
		"an empty row":             {instance(row{num(1)}, row{}), api.ErrArity},
		"a nil row":                {instance(nil), api.ErrArity},
		"a long row":               {instance(row{num(1), num(1)}), api.ErrArity},
		"a long row, wrong type":   {instance(row{text("x"), num(1)}), api.ErrArity},
		"type in an earlier row":   {instance(row{text("x")}, row{}), api.ErrType},
		"arity in an earlier row":  {instance(row{}, row{text("x")}), api.ErrArity},
		"first table first, type":  {api.Instance{Tables: [][]row{{{num(1), num(1), null}}, many}}, api.ErrType},
		"first table first, arity": {api.Instance{Tables: [][]row{{{num(1), null}}, {{text("x")}}}}, api.ErrArity},
		"the last row":             {instance(row{num(1)}, row{num(2)}, row{truth(1)}), api.ErrType},
		"text for bool":            {api.Instance{Tables: [][]row{{{num(1), text("a"), text("a")}}, nil}}, api.ErrType},
		"bool for text":            {api.Instance{Tables: [][]row{{{num(1), truth(1), truth(1)}}, nil}}, api.ErrType},
		"integer for bool":         {api.Instance{Tables: [][]row{{{num(1), text("a"), num(1)}}, nil}}, api.ErrType},
		"too great":                {instance(row{num(api.MaxInt + 1)}), api.ErrType},
		"too small":                {instance(row{num(-api.MaxInt - 1)}), api.ErrType},
		"an integer with a text":   {instance(row{{Kind: api.Int, Text: "a"}}), api.ErrType},
		"a null with a number":     {instance(row{{Num: 1}}), api.ErrType},
		"a null with a text":       {instance(row{{Text: "a"}}), api.ErrType},
		"an unknown kind":          {instance(row{{Kind: 4}}), api.ErrType},
		"a bool of 2":              {api.Instance{Tables: [][]row{{{num(1), null, truth(2)}}, nil}}, api.ErrType},
		"a long text":              {api.Instance{Tables: [][]row{{{num(1), text(strings.Repeat("a", api.MaxText+1)), null}}, nil}}, api.ErrType},
		"an apostrophe":            {api.Instance{Tables: [][]row{{{num(1), text("'"), null}}, nil}}, api.ErrType},
	} {
		if err := Fits(shop(), c.i); err != c.want {
			t.Errorf("%s: %d", name, err)
		}
		if rows, err := Eval(shop(), c.i, scan("none")); rows != nil || err != c.want {
			t.Errorf("%s: %v, %d", name, rows, err)
		}
	}
}

func TestFitsLooksAtTheSchemaFirst(t *testing.T) {
	wrong := shop()
	wrong.Tables[1].Name = "T"
	cycle := shop()
	cycle.Tables[1].Foreigns = []api.Foreign{{Columns: []int{0}, Table: "t"}}
	many := api.Schema{Tables: make([]api.Table, api.MaxTables+1)}
	for name, c := range map[string]struct {
		s    api.Schema
		want api.Errno
	}{
		"name":  {wrong, api.ErrName},
		"cycle": {cycle, api.ErrCycle},
		"limit": {many, api.ErrLimit},
	} {
		for _, i := range []api.Instance{goods(), {}, instance(row{})} {
			if err := Fits(c.s, i); err != c.want {
				t.Errorf("%s: %d", name, err)
			}
			if rows, err := Eval(c.s, i, api.Query{}); rows != nil || err != c.want {
				t.Errorf("%s: %v, %d", name, rows, err)
			}
		}
	}
}

func TestEvalOperators(t *testing.T) {
	one, two, three, other := row{num(1), null, null}, row{num(2), text("x"), truth(0)}, row{num(3), text("x"), truth(1)}, row{null, text("y"), truth(1)}
	a, b, c := column(0), column(1), column(2)
	never := filter(always(0), scan("t"))
	for name, x := range map[string]struct {
		q    api.Query
		want []row
	}{
		"scan":                      {scan("t"), []row{other, one, one, two, three}},
		"values":                    {literal(num(2), null, num(-1), num(2)), []row{{null}, {num(-1)}, {num(2)}, {num(2)}}},
		"no values":                 {literal(), nil},
		"a true condition":          {filter(c, scan("t")), []row{other, three}},
		"a false condition":         {filter(op(api.OpNot, c), scan("t")), []row{two}},
		"a null condition":          {filter(op(api.OpIsNull, c), scan("t")), []row{one, one}},
		"a condition of null":       {filter(api.Expr{Op: api.OpNull, Type: api.Bool}, scan("t")), nil},
		"project keeps repetitions": {projection(scan("t"), b), []row{{null}, {null}, {text("x")}, {text("x")}, {text("y")}}},
		"project in its own order":  {projection(scan("t"), c, op(api.OpAdd, a, a), c), []row{{null, num(2), null}, {null, num(2), null}, {truth(0), num(4), truth(0)}, {truth(1), null, truth(1)}, {truth(1), num(6), truth(1)}}},
		"project of nothing":        {projection(never, lit(1)), nil},
		"union all":                 {set(api.QUnion, true, literal(num(2), null), literal(num(2), num(1))), []row{{null}, {num(1)}, {num(2)}, {num(2)}}},
		"union":                     {set(api.QUnion, false, literal(num(2), null), literal(num(2), num(1))), []row{{null}, {num(1)}, {num(2)}}},
		"except all":                {set(api.QExcept, true, literal(num(2), null, num(2), null), literal(num(2), num(1), null)), []row{{null}, {num(2)}}},
		"except":                    {set(api.QExcept, false, literal(num(2), null, num(2), num(3), num(3)), literal(num(2), num(1))), []row{{null}, {num(3)}}},
		"intersect all":             {set(api.QIntersect, true, literal(num(2), null, num(2), null), literal(num(2), num(2), num(2), null)), []row{{null}, {num(2)}, {num(2)}}},
		"intersect":                 {set(api.QIntersect, false, literal(num(2), null, num(2), null), literal(num(2), num(2), num(1), null)), []row{{null}, {num(2)}}},
		"distinct":                  {api.Query{Op: api.QDistinct, Kids: []api.Query{scan("t")}}, []row{other, one, two, three}},
	} {
		if rows, err := Eval(shop(), goods(), x.q); err != api.OK || !sameRows(rows, x.want) {
			t.Errorf("%s: %v, %d", name, rows, err)
		}
	}
}

func TestEvalJoins(t *testing.T) {
	one, two, three, other := row{num(1), null, null}, row{num(2), text("x"), truth(0)}, row{num(3), text("x"), truth(1)}, row{null, text("y"), truth(1)}
	with := func(r row, n api.Value) row { return append(slices.Clone(r), n) }
	none := row{null, null, null}
	equal, atLeast := op(api.OpEq, column(0), column(3)), op(api.OpGe, column(0), column(3))
	empty := filter(always(0), scan("u"))
	for name, x := range map[string]struct {
		kind   int
		cond   api.Expr
		second api.Query
		want   []row
	}{
		"inner":               {api.JoinInner, equal, scan("u"), []row{with(one, num(1)), with(one, num(1))}},
		"left":                {api.JoinLeft, equal, scan("u"), []row{with(other, null), with(one, num(1)), with(one, num(1)), with(two, null), with(three, null)}},
		"right":               {api.JoinRight, equal, scan("u"), []row{with(none, null), with(none, num(5)), with(one, num(1)), with(one, num(1))}},
		"full":                {api.JoinFull, equal, scan("u"), []row{with(none, null), with(none, num(5)), with(other, null), with(one, num(1)), with(one, num(1)), with(two, null), with(three, null)}},
		"semi":                {api.JoinSemi, equal, scan("u"), []row{one, one}},
		"anti":                {api.JoinAnti, equal, scan("u"), []row{other, two, three}},
		"inner, several":      {api.JoinInner, atLeast, literal(num(2), num(3), num(3), num(9)), []row{with(two, num(2)), with(three, num(2)), with(three, num(3)), with(three, num(3))}},
		"semi, several":       {api.JoinSemi, atLeast, literal(num(2), num(3), num(3), num(9)), []row{two, three}},
		"anti, several":       {api.JoinAnti, atLeast, literal(num(2), num(3), num(3), num(9)), []row{other, one, one}},
		"right, several":      {api.JoinRight, atLeast, literal(num(2), num(9), num(9)), []row{with(none, num(9)), with(none, num(9)), with(two, num(2)), with(three, num(2))}},
		"inner, none":         {api.JoinInner, always(1), empty, nil},
		"left, none":          {api.JoinLeft, always(1), empty, []row{with(other, null), with(one, null), with(one, null), with(two, null), with(three, null)}},
		"full, none":          {api.JoinFull, always(1), empty, []row{with(other, null), with(one, null), with(one, null), with(two, null), with(three, null)}},
		"right, none":         {api.JoinRight, always(1), empty, nil},
		"semi, none":          {api.JoinSemi, always(1), empty, nil},
		"anti, none":          {api.JoinAnti, always(1), empty, []row{other, one, one, two, three}},
		"null is no match":    {api.JoinSemi, op(api.OpEq, column(3), column(3)), literal(null), nil},
		"null is not matched": {api.JoinAnti, op(api.OpEq, column(3), column(3)), literal(null), []row{other, one, one, two, three}},
	} {
		if rows, err := Eval(shop(), goods(), joined(x.kind, x.cond, scan("t"), x.second)); err != api.OK || !sameRows(rows, x.want) {
			t.Errorf("%s: %v, %d", name, rows, err)
		}
	}
	first := filter(always(0), scan("t"))
	for _, kind := range []int{api.JoinRight, api.JoinFull} {
		rows, err := Eval(shop(), goods(), joined(kind, always(1), first, scan("u")))
		if want := []row{with(none, null), with(none, num(1)), with(none, num(5))}; err != api.OK || !sameRows(rows, want) {
			t.Errorf("join %d of nothing: %v, %d", kind, rows, err)
		}
	}
}

func TestEvalGroups(t *testing.T) {
	a, b, c := column(0), column(1), column(2)
	all := []api.Agg{{Fun: api.AggRows}, {Fun: api.AggCount, Arg: a}, {Fun: api.AggDistinct, Arg: c}, {Fun: api.AggSum, Arg: a}, {Fun: api.AggMin, Arg: b}, {Fun: api.AggMax, Arg: a}}
	never := filter(always(0), scan("t"))
	for name, x := range map[string]struct {
		q    api.Query
		want []row
	}{
		"by a column": {grouping(scan("t"), []api.Expr{b}, all...), []row{
			{null, num(2), num(2), num(0), num(2), null, num(1)},
			{text("x"), num(2), num(2), num(2), num(5), text("x"), num(3)},
			{text("y"), num(1), num(0), num(1), null, text("y"), null},
		}},
		"by two":                   {grouping(scan("t"), []api.Expr{c, op(api.OpIsNull, a)}, api.Agg{Fun: api.AggRows}), []row{{null, truth(0), num(2)}, {truth(0), truth(0), num(1)}, {truth(1), truth(0), num(1)}, {truth(1), truth(1), num(1)}}},
		"by a constant":            {grouping(scan("t"), []api.Expr{lit(7)}, api.Agg{Fun: api.AggRows}), []row{{num(7), num(5)}}},
		"without aggregates":       {grouping(scan("t"), []api.Expr{b}), []row{{null}, {text("x")}, {text("y")}}},
		"one group":                {grouping(scan("t"), nil, all...), []row{{num(5), num(4), num(2), num(7), text("x"), num(3)}}},
		"one group without rows":   {grouping(never, nil, all...), []row{{num(0), num(0), num(0), null, null, null}}},
		"empty Exprs":              {grouping(never, []api.Expr{}, all[0]), []row{{num(0)}}},
		"no groups":                {grouping(never, []api.Expr{b}, all...), nil},
		"no groups of a constant":  {grouping(never, []api.Expr{lit(7)}, all[0]), nil},
		"a group of a group":       {grouping(grouping(scan("t"), []api.Expr{b}, all[0]), []api.Expr{b}, all[0]), []row{{num(1), num(1)}, {num(2), num(2)}}},
		"an aggregate twice":       {grouping(scan("t"), nil, all[0], all[0]), []row{{num(5), num(5)}}},
		"an aggregate of a sum":    {grouping(scan("u"), nil, api.Agg{Fun: api.AggMax, Arg: op(api.OpAdd, a, a)}), []row{{num(10)}}},
		"a sum that is too great":  {grouping(literal(num(api.MaxInt), num(1)), nil, api.Agg{Fun: api.AggSum, Arg: a}), []row{{null}}},
		"a sum that is on the way": {grouping(literal(num(api.MaxInt), num(1), num(-1)), nil, api.Agg{Fun: api.AggSum, Arg: a}), []row{{num(api.MaxInt)}}},
	} {
		if rows, err := Eval(shop(), goods(), x.q); err != api.OK || !sameRows(rows, x.want) {
			t.Errorf("%s: %v, %d", name, rows, err)
		}
	}
}

func TestEvalErrors(t *testing.T) {
	tooMany := joined(api.JoinInner, always(1), set(api.QUnion, true, scan("u"), scan("u")), scan("u"))
	large := instance(slices.Repeat([]row{{num(1)}}, api.MaxRows)...)
	if rows, err := Eval(shop(), large, tooMany); rows != nil || err != api.ErrLimit {
		t.Errorf("many pairs: %d rows, %d", len(rows), err)
	}
	deep := scan("t")
	for range api.MaxDepth {
		deep = api.Query{Op: api.QDistinct, Kids: []api.Query{deep}}
	}
	for name, c := range map[string]struct {
		q    api.Query
		want api.Errno
	}{
		"nothing":           {api.Query{}, api.ErrInvalid},
		"another operator":  {api.Query{Op: api.QGroup + 1}, api.ErrInvalid},
		"a missing table":   {scan("none"), api.ErrMissing},
		"too deep":          {deep, api.ErrDepth},
		"no condition":      {filter(lit(1), scan("t")), api.ErrType},
		"no column":         {filter(column(3), scan("t")), api.ErrName},
		"no Kid":            {api.Query{Op: api.QDistinct}, api.ErrArity},
		"before the limit":  {filter(column(9), tooMany), api.ErrName},
		"too many values":   {literal(slices.Repeat(row{num(1)}, api.MaxNodes)...), api.ErrLimit},
		"another aggregate": {grouping(scan("t"), nil, api.Agg{Fun: 7, Arg: column(0)}), api.ErrInvalid},
		"a kind of join":    {joined(0, always(1), scan("t"), scan("u")), api.ErrInvalid},
	} {
		if rows, err := Eval(shop(), large, c.q); rows != nil || err != c.want {
			t.Errorf("%s: %v, %d", name, rows, err)
		}
	}
}

// rowsOfU returns an instance whose table u has the numbers from 1 to n.
func rowsOfU(n int) api.Instance {
	var rows []row
	for k := range n {
		rows = append(rows, row{num(int64(k) + 1)})
	}
	return instance(rows...)
}

// times returns a query with the rows of u that often.
func times(n int) api.Query {
	q := scan("u")
	for range n - 1 {
		q = set(api.QUnion, true, q, scan("u"))
	}
	return q
}

// upTo returns the query of the numbers of u from 1 to n.
func upTo(n int64) api.Query {
	return filter(op(api.OpLe, column(0), lit(n)), scan("u"))
}

func TestLimitOfPairs(t *testing.T) {
	for name, c := range map[string]struct {
		first, second api.Query
		want          api.Errno
	}{
		"as many as allowed": {times(5), upTo(50), api.OK},
		"a few more":         {set(api.QUnion, true, times(2), upTo(63)), upTo(108), api.ErrLimit},
		"the other way":      {upTo(51), times(5), api.ErrLimit},
		"no rows":            {times(5), upTo(0), api.OK},
		"many":               {times(5), times(5), api.ErrLimit},
		"within":             {upTo(100), upTo(100), api.OK},
	} {
		for kind := api.JoinInner; kind <= api.JoinAnti; kind++ {
			q := joined(kind, op(api.OpEq, column(0), column(1)), c.first, c.second)
			rows, err := Eval(shop(), rowsOfU(api.MaxRows), q)
			if err != c.want || err != api.OK && rows != nil {
				t.Errorf("%s, join %d: %d rows, %d", name, kind, len(rows), err)
			}
			if _, err := Eval(shop(), rowsOfU(api.MaxRows), filter(always(0), q)); err != c.want {
				t.Errorf("%s, join %d below: %d", name, kind, err)
			}
		}
	}
}

func TestLimitOfRows(t *testing.T) {
	all := filter(always(1), times(5))
	one := literal(num(1))
	cross := func(n, m int64) api.Query {
		return joined(api.JoinInner, always(1), upTo(n), upTo(m))
	}
	for name, c := range map[string]struct {
		q    api.Query
		want int
	}{
		"as many as allowed": {all, api.MaxBag},
		"a row more":         {set(api.QUnion, true, all, one), -1},
		"twice":              {set(api.QUnion, true, all, all), -1},
		"without repetition": {set(api.QUnion, false, all, all), api.MaxRows},
		"pairs":              {cross(40, 25), api.MaxBag},
		"a pair more":        {cross(143, 7), -1},
		"count":              {grouping(cross(40, 25), nil, api.Agg{Fun: api.AggRows}), 1},
		"count of a pair":    {grouping(cross(143, 7), nil, api.Agg{Fun: api.AggRows}), -1},
		"none of a pair":     {filter(always(0), cross(143, 7)), -1},
		"second Kid":         {set(api.QIntersect, false, one, set(api.QUnion, true, all, one)), -1},
	} {
		rows, err := Eval(shop(), rowsOfU(api.MaxRows), c.q)
		if c.want < 0 && (rows != nil || err != api.ErrLimit) || c.want >= 0 && (len(rows) != c.want || err != api.OK) {
			t.Errorf("%s: %d rows, %d", name, len(rows), err)
		}
	}
}

func TestLimitOfOuterJoins(t *testing.T) {
	// Every row of the first 100 has ten matches in the second; the others have none.
	for _, c := range []struct {
		kind          int
		first, second int64
		want          int
	}{
		{api.JoinLeft, 100, 10, 1000}, {api.JoinLeft, 101, 10, -1}, {api.JoinLeft, 100, 11, 1000},
		{api.JoinRight, 100, 10, 1000}, {api.JoinRight, 101, 10, 1000}, {api.JoinRight, 100, 11, -1},
		{api.JoinFull, 99, 9, 9 * 99}, {api.JoinFull, 101, 10, -1}, {api.JoinFull, 100, 11, -1}, {api.JoinFull, 150, 150, -1},
		{api.JoinInner, 101, 11, 1000}, {api.JoinSemi, 101, 11, 100}, {api.JoinAnti, 101, 11, 1},
	} {
		cond := op(api.OpAnd, op(api.OpLe, column(0), lit(100)), op(api.OpLe, column(1), lit(10)))
		rows, err := Eval(shop(), rowsOfU(api.MaxRows), joined(c.kind, cond, upTo(c.first), upTo(c.second)))
		if c.want < 0 && (rows != nil || err != api.ErrLimit) || c.want >= 0 && (len(rows) != c.want || err != api.OK) {
			t.Errorf("join %d of %d and %d: %d rows, %d", c.kind, c.first, c.second, len(rows), err)
		}
	}
}
