package algebra

import (
	"strings"
	"testing"

	"querylab/api"
)

func TestTextOfOperators(t *testing.T) {
	truth := api.Value{Kind: api.Bool, Num: 1}
	text := api.Value{Kind: api.Text, Text: "a, b"}
	for _, c := range []struct {
		q    api.Query
		want string
	}{
		{scan("t"), "scan(t)"},
		{scan(""), "scan()"},
		{values([]int{api.Int, api.Bool, api.Text}, []api.Value{integer(-1), truth, text}, []api.Value{{}, {}, {}}), "values(int, bool, text, (-1, true, 'a, b'), (null, null, null))"},
		{values([]int{api.Int}), "values(int)"},
		{values(nil), "values()"},
		{values(nil, nil, []api.Value{}, []api.Value{{}}), "values((), (), (null))"},
		{values([]int{0, 4, -1, 1 << 62, -1 << 63}, []api.Value{{Kind: 4}, {Kind: api.Bool, Num: 2}, {Num: 1}}), "values(?, ?, ?, ?, ?, (?, ?, ?))"},
		{where(below(0, 5), scan("t")), "select(lt($0, 5), scan(t))"},
		{where(api.Expr{}, scan("t")), "select(?(), scan(t))"},
		{query(api.QSelect), "select(?())"},
		{project(scan("t"), col(1), below(0, 5)), "project($1, lt($0, 5), scan(t))"},
		{project(scan("t")), "project(scan(t))"},
		{query(api.QProject), "project()"},
		{join(api.JoinInner, op(api.OpEq, col(0), col(1)), scan("t"), scan("u")), "join(inner, eq($0, $1), scan(t), scan(u))"},
		{query(api.QDistinct, query(api.QDistinct, scan("t"))), "distinct(distinct(scan(t)))"},
		{group(scan("t"), []api.Agg{{Fun: api.AggRows}}, col(1), col(0)), "group($1, $0, count(*), scan(t))"},
		{group(scan("t"), []api.Agg{{Fun: api.AggRows}}), "group(count(*), scan(t))"},
		{group(scan("t"), nil, below(0, 5)), "group(lt($0, 5), scan(t))"},
		{group(scan("t"), nil), "group(scan(t))"},
	} {
		if got := Text(c.q); got != c.want {
			t.Errorf("%s, not %s", got, c.want)
		}
	}
}

func TestTextOfKinds(t *testing.T) {
	words := map[int]string{1: "inner", 2: "left", 3: "right", 4: "full", 5: "semi", 6: "anti"}
	for _, kind := range []int{-1 << 63, -1, 0, 1, 2, 3, 4, 5, 6, 7, 1<<63 - 1} {
		word, ok := words[kind]
		if !ok {
			word = "?"
		}
		if got := Text(join(kind, num(1), scan("t"), scan("u"))); got != "join("+word+", 1, scan(t), scan(u))" {
			t.Errorf("kind %d: %s", kind, got)
		}
	}
}

func TestTextOfSets(t *testing.T) {
	for o, word := range map[int]string{api.QUnion: "union", api.QExcept: "except", api.QIntersect: "intersect"} {
		q := query(o, scan("t"), scan("u"))
		if got := Text(q); got != word+"(distinct, scan(t), scan(u))" {
			t.Error(got)
		}
		q.All = true
		if got := Text(q); got != word+"(all, scan(t), scan(u))" {
			t.Error(got)
		}
	}
}

func TestTextOfAggregates(t *testing.T) {
	words := map[int]string{1: "count(*)", 2: "count(neg($1))", 3: "countd(neg($1))", 4: "sum(neg($1))", 5: "min(neg($1))", 6: "max(neg($1))"}
	for _, fun := range []int{-1 << 63, -1, 0, 1, 2, 3, 4, 5, 6, 7, 1<<63 - 1} {
		word, ok := words[fun]
		if !ok {
			word = "?"
		}
		if got := Text(group(scan("t"), []api.Agg{{Fun: fun, Arg: op(api.OpNeg, col(1))}}, col(0))); got != "group($0, "+word+", scan(t))" {
			t.Errorf("function %d: %s", fun, got)
		}
	}
}

func TestTextHasWhatTheOperatorUsesAndAllKids(t *testing.T) {
	wanted := map[int]string{
		api.QScan:      "scan(t",
		api.QValues:    "values(int, text, (1, null), (), (2)",
		api.QSelect:    "select(lt($0, 5)",
		api.QProject:   "project($0, lt($1, 2)",
		api.QJoin:      "join(left, lt($0, 5)",
		api.QUnion:     "union(all",
		api.QExcept:    "except(all",
		api.QIntersect: "intersect(all",
		api.QDistinct:  "distinct(",
		api.QGroup:     "group($0, lt($1, 2), sum(neg($1)), count(*), ?",
	}
	for _, o := range unknownOps() {
		wanted[o] = "?("
	}
	for o, want := range wanted {
		q := everything(o)
		for n := range 4 {
			q.Kids = []api.Query{scan("x"), query(api.QDistinct), values([]int{1})}[:n]
			text := want
			if kids := []string{"", "scan(x)", "scan(x), distinct()", "scan(x), distinct(), values(int)"}[n]; n > 0 {
				if !strings.HasSuffix(text, "(") {
					text += ", "
				}
				text += kids
			}
			if got := Text(q); got != text+")" {
				t.Errorf("operator %d: %s, not %s)", o, got, text)
			}
		}
	}
}

func TestTextOfDeepQueries(t *testing.T) {
	const depth = 60000
	if got := Text(chain(depth)); got != strings.Repeat("distinct(", depth-1)+"scan(t"+strings.Repeat(")", depth) {
		t.Errorf("it has %d bytes", len(got))
	}
}

func TestTextOfNamesWithSigns(t *testing.T) {
	for _, name := range []string{"(", "x(", ", ", "x, ", ")", "\x00"} {
		q := scan(name)
		if got := Text(q); got != "scan("+name+")" {
			t.Errorf("%q", got)
		}
		q.Kids = []api.Query{scan("t")}
		if got := Text(q); got != "scan("+name+", scan(t))" {
			t.Errorf("%q", got)
		}
	}
}
